import PyProof.Rows.All
import Wide.All
import OpenK.AllK
import Wide.FinOn
import Lean
import PyProof.EqAt
import PyProof.EqKinds
import PyProof.TupleCall
import PyProof.JoinWalk
import PyProof.DictIter
import PyProof.SeqI3
import PyProof.WalkInts
import PySem.Challenge.RW_dialecthall_k76_sole_texts_looked_at
set_option Elab.async false
set_option linter.all false
set_option maxRecDepth 100000
namespace L2
open PySem PySem.Spec PyProof.Rows
abbrev Key := Sum Int Str
def keyIs : Key → Value → Bool
 | .inl k, v => Value.isInt k v
 | .inr x, v => Value.isStrOf x v
def keyH (w : World) : Key → Int
 | .inl k => hashInt k
 | .inr x => hashStr w x
theorem keyIs_shape : ∀ {k : Key} {v : Value}, keyIs k v = true → (∃ i t, k = Sum.inl i ∧ v = Value.int i t) ∨ (∃ x t, k = Sum.inr x ∧ v = Value.str x t)
 | .inl i, v, h => by
   obtain ⟨t, e⟩ := Value.isInt_shape (k := i) (v := v) h
   exact .inl ⟨i, t, rfl, e⟩
 | .inr x, v, h => by
   obtain ⟨t, e⟩ := Value.isStrOf_shape (x := x) (v := v) h
   exact .inr ⟨x, t, rfl, e⟩
theorem keyIs_int (i : Int) (t : Tok) : keyIs (.inl i) (.int i t) = true := by simp [keyIs, Value.isInt]
theorem keyIs_str (x : Str) (t : Tok) : keyIs (.inr x) (.str x t) = true := by simp [keyIs, Value.isStrOf]
theorem key_ll (a b : Int) : decide ((Sum.inl a : Key) = Sum.inl b) = (a == b) := by
 by_cases e : a = b
 · subst e; simp
 · have h : ¬ (Sum.inl a : Key) = Sum.inl b := fun q => e (Sum.inl.inj q)
   rw [decide_eq_false h]
   exact (beq_eq_false_iff_ne.mpr e).symm
theorem key_rr (a b : Str) : decide ((Sum.inr a : Key) = Sum.inr b) = decide (a = b) := by
 by_cases e : a = b
 · subst e; simp
 · have h : ¬ (Sum.inr a : Key) = Sum.inr b := fun q => e (Sum.inr.inj q)
   rw [decide_eq_false h, decide_eq_false e]
theorem key_lr (a : Int) (b : Str) : decide ((Sum.inl a : Key) = Sum.inr b) = false := decide_eq_false (fun q => nomatch q)
theorem key_rl (a : Str) (b : Int) : decide ((Sum.inr a : Key) = Sum.inl b) = false := decide_eq_false (fun q => nomatch q)

def mixKind (prog : Program) (w : World) : PySem.KeyKind prog w Key where
 is := keyIs
 hash := keyH w
 inj := fun v a b ha hb => by
   rcases keyIs_shape ha with ⟨i, t, rfl, rfl⟩ | ⟨x, t, rfl, rfl⟩
   · rcases keyIs_shape hb with ⟨j, u, rfl, e⟩ | ⟨y, u, rfl, e⟩
     · injection e with e1 _; rw [e1]
     · exact nomatch e
   · rcases keyIs_shape hb with ⟨j, u, rfl, e⟩ | ⟨y, u, rfl, e⟩
     · exact nomatch e
     · injection e with e1 _; rw [e1]
 byValue := fun k v h => by
   rcases keyIs_shape h with ⟨i, t, rfl, rfl⟩ | ⟨x, t, rfl, rfl⟩ <;> rfl
 pyHash := fun hv h => by
   rcases keyIs_shape hv with ⟨i, t, rfl, rfl⟩ | ⟨x, t, rfl, rfl⟩
   · exact wpAny_pyHash_int h
   · exact wpAny_pyHash_str h
 eqBool := fun hu hv h => by
   rcases keyIs_shape hu with ⟨i, t, rfl, rfl⟩ | ⟨x, t, rfl, rfl⟩
   · rcases keyIs_shape hv with ⟨j, u, rfl, rfl⟩ | ⟨y, u, rfl, rfl⟩
     · rw [key_ll] at h; exact wpAny_eqBool_int h
     · rw [key_lr] at h; exact SeqAt.EqAt.int_str i t y u _ _ _ _ h
   · rcases keyIs_shape hv with ⟨j, u, rfl, rfl⟩ | ⟨y, u, rfl, rfl⟩
     · rw [key_rl] at h; exact SeqAt.EqAt.str_int x t j u _ _ _ _ h
     · rw [key_rr] at h; exact wpAny_eqBool_str h
 «strs» := fun k x t v h => by
   rcases keyIs_shape h with ⟨i, u, rfl, e⟩ | ⟨y, u, rfl, e⟩
   · exact nomatch e
   · injection e with e1 _
     subst e1
     cases v <;> rfl

theorem mixKind_int (prog : Program) (w : World) (i : Int) (t : Tok) : (mixKind prog w).is (.inl i) (.int i t) = true := keyIs_int i t
theorem mixKind_str (prog : Program) (w : World) (x : Str) (t : Tok) : (mixKind prog w).is (.inr x) (.str x t) = true := keyIs_str x t
end L2

namespace L2
open PySem PySem.Spec PyProof.Rows
inductive V where
 | non | bl (b : Bool) | int (i : Int) | str (x : Str) | byt (b : Array UInt8) | flt (b : UInt64) | ref (a : Addr) | ty (n : String)
 deriving DecidableEq

def RelV : V → Value → Prop
 | .non, u => u = Value.none
 | .bl b, u => u = Value.bool b
 | .int i, u => ∃ t, u = Value.int i t
 | .str x, u => ∃ t, u = Value.str x t
 | .byt b, u => ∃ t, u = Value.bytes b t
 | .flt b, u => ∃ t, u = Value.float b t
 | .ref a, u => u = Value.ref a
 | .ty n, u => u = Value.type n

abbrev Vals : List V → List Value → Prop := Paired RelV
theorem Vals.length {xs : List V} {us : List Value} (r : Vals xs us) : xs.length = us.length := Paired.length r
theorem Vals.get : ∀ {xs : List V} {us : List Value} {i : Nat} {x : V}, Vals xs us → xs[i]? = some x → ∃ u, us[i]? = some u ∧ RelV x u
 | _, _, _, _, .nil, e => by simp at e
 | _, _, 0, _, .cons r _, e => by simp at e; subst e; exact ⟨_, rfl, r⟩
 | _, _, i + 1, x, .cons _ t, e => by
   obtain ⟨u, h1, h2⟩ := Vals.get (i := i) (x := x) t (by simpa using e)
   exact ⟨u, by simpa using h1, h2⟩
theorem Vals.set {x : V} {u : Value} (r : RelV x u) : ∀ {xs : List V} {us : List Value} (i : Nat), Vals xs us → Vals (xs.set i x) (us.set i u)
 | _, _, _, .nil => .nil
 | _, _, 0, .cons _ t => .cons r t
 | _, _, i + 1, .cons q t => .cons q (Vals.set r i t)
theorem Vals.append : ∀ {xs ys : List V} {us ws : List Value}, Vals xs us → Vals ys ws → Vals (xs ++ ys) (us ++ ws)
 | _, _, _, _, .nil, s => s
 | _, _, _, _, .cons r t, s => .cons r (Vals.append t s)
theorem Vals.take : ∀ {xs : List V} {us : List Value} (n : Nat), Vals xs us → Vals (xs.take n) (us.take n)
 | _, _, 0, _ => .nil
 | _, _, _ + 1, .nil => .nil
 | _, _, n + 1, .cons r t => .cons r (Vals.take n t)
theorem Vals.drop : ∀ {xs : List V} {us : List Value} (n : Nat), Vals xs us → Vals (xs.drop n) (us.drop n)
 | _, _, 0, r => r
 | _, _, _ + 1, .nil => .nil
 | _, _, n + 1, .cons _ t => Vals.drop n t
theorem Vals.none_of : ∀ {xs : List V} {us : List Value} {i : Nat}, Vals xs us → xs[i]? = none → us[i]? = none := fun {xs us i} r e => by
 have h1 := r.length
 have h2 : xs.length ≤ i := List.getElem?_eq_none_iff.mp e
 exact List.getElem?_eq_none_iff.mpr (by omega)

def RelO : Option V → Option Value → Prop
 | some v, some u => RelV v u
 | none, none => True
 | _, _ => False
def KV {κ : Type} : List (κ × V) → List (κ × Value) → Prop := Paired fun (p : κ × V) (q : κ × Value) => p.1 = q.1 ∧ RelV p.2 q.2
def kV : Key → V
 | .inl i => .int i
 | .inr x => .str x
inductive HO where
 | lst (xs : List V)
 | tup (xs : List V)
 | dK (kvs : List (Key × V)) | dT (kvs : List (List Key × V))
 | set (S : Int → Bool) (n : Nat)
 | ins (C dx : Addr) (fs : List (Str × V))
 | own (x : Addr)
 | xd (fs : List (Str × V))
 | met (f x : Addr)
 | rng (lo hi : Int)
 | frz (o : Obj) (u : HO)
 | tbl (ps : Array Value)
 | ext (φ : Heap → Prop)

abbrev Hp := Addr → Option HO
def upd (H : Hp) (a : Addr) (o : HO) : Hp := fun b => if b = a then some o else H b
theorem upd_same {H : Hp} {a : Addr} {o : HO} : upd H a o a = some o := by unfold upd; rw [if_pos rfl]
theorem upd_ne {H : Hp} {a b : Addr} {o : HO} (h : b ≠ a) : upd H a o b = H b := by unfold upd; rw [if_neg h]
theorem ne_of {H : Hp} {a b : Addr} {o u : HO} (h : H a = some o) (h' : H b = some u) (d : o ≠ u) : a ≠ b := by
 intro e; subst e; rw [h] at h'; exact d (Option.some.inj h')
theorem ne_of_none {H : Hp} {a b : Addr} {o : HO} (h : H a = some o) (h' : H b = none) : a ≠ b := by
 intro e; subst e; rw [h] at h'; cases h'

section
variable (P : Program) (w : World)
def ObjOk (H : Hp) (h : Heap) (a : Addr) : HO → Prop
 | .lst xs => xs.length ≤ sizeLine ∧ ∃ (its : List Value) (n : Nat), Vals xs its ∧ h.get? a = some { cls := .type "list", data := .seq its.toArray n }
 | .tup xs => xs.length ≤ sizeLine ∧ ∃ its : List Value, Vals xs its ∧ IsTup h a its.toArray
 | .dK kvs => kvs.length ≤ sizeLine ∧ (a == sysModules) = false ∧ ∃ vs, KV kvs vs ∧ h.DictOf (mixKind P w) a vs
 | .dT kvs => kvs.length ≤ sizeLine ∧ (a == sysModules) = false ∧ ∃ xs : List (List Key × Addr × Value),
     Paired (fun (p : List Key × V) (q : List Key × Addr × Value) => p.1 = q.1 ∧ H q.2.1 = some (.tup (p.1.map kV)) ∧ RelV p.2 q.2.2) kvs xs ∧
     ∃ o es ep, h.get? a = some o ∧ o.ExactDict ∧ o.data = .dict es ep ∧ es.toList = xs.map (entryOfKey (tupleKind (mixKind P w))) ∧ (xs.map (·.1)).Nodup
 | .set S n => h.SetOf (intKind P w) a S n
 | .ins C dx fs => H dx = some (.own a) ∧ fs.length ≤ 1000 ∧ dx ≠ a ∧ h.get? a = some (PySem.W.instObj C dx) ∧
     ∃ mA, h.Ns1 dx mA ∧ (∀ f, RelO (fs.lookup f) (mA f)) ∧ PySem.Within mA (fs.map (·.1))
 | .own _ => ∃ o, h.get? a = some o
 | .xd fs => ∃ mA, h.Ns1 a mA ∧ ∀ f, RelO (fs.lookup f) (mA f)
 | .rng lo hi => ∃ t u v, h.get? a = some { cls := .type "range", data := .fields #[.int lo t, .int hi u, .int 1 v] }
 | .frz o u => h.get? a = some o ∧ ObjOk H h a u
 | .tbl ps => h.get? a = some { cls := .none, data := .fields ps }
 | .met f x => h.get? a = some (PySem.W.methodObj (.ref f) (.ref x))
 | .ext φ => φ h ∧ (∃ o, h.get? a = some o) ∧ ∀ h1 h2 : Heap, φ h1 → (∀ o, h1.get? a = some o → h2.get? a = some o) → φ h2
def HOk (H : Hp) (h : Heap) : Prop := ∀ a o, H a = some o → ObjOk P w H h a o
end

section
variable {P : Program} {w : World} {H H' : Hp} {h h' : Heap} {a : Addr} {o : HO}
theorem ObjOk.lt (x : ObjOk P w H h a o) : a < h.objs.size := by
 cases o with
 | lst xs => obtain ⟨_, _, _, _, e⟩ := x; exact Heap.lt_size e
 | tup xs => obtain ⟨_, _, _, p⟩ := x; exact p.lt
 | dK kvs => obtain ⟨_, _, _, _, o, _, _, e, _⟩ := x; exact Heap.lt_size e
 | dT kvs => obtain ⟨_, _, _, _, o, _, _, e, _⟩ := x; exact Heap.lt_size e
 | set S n => obtain ⟨o, _, _, _, e, _⟩ := x; exact Heap.lt_size e
 | ins C dx fs => obtain ⟨_, _, _, e, _⟩ := x; exact Heap.lt_size e
 | own y => obtain ⟨_, e⟩ := x; exact Heap.lt_size e
 | xd fs => obtain ⟨_, ⟨_, _, _, e, _⟩, _⟩ := x; exact Heap.lt_size e
 | rng lo hi => obtain ⟨_, _, _, e⟩ := x; exact Heap.lt_size e
 | frz ob u => obtain ⟨e, _⟩ := x; exact Heap.lt_size e
 | tbl ps => exact Heap.lt_size (show h.get? a = some _ from x)
 | met f y => exact Heap.lt_size (show h.get? a = some _ from x)
 | ext φ => obtain ⟨_, ⟨_, e⟩, _⟩ := x; exact Heap.lt_size e
theorem Paired.mapP {α β : Type} {F G : α → β → Prop} : ∀ {l₁ : List α} {l₂ : List β}, Paired F l₁ l₂ → (∀ a b, F a b → G a b) → Paired G l₁ l₂
 | _, _, .nil, _ => .nil
 | _, _, .cons r t, f => .cons (f _ _ r) (Paired.mapP t f)
theorem ObjOk.stay (x : ObjOk P w H h a o) (k : ∀ b u, (b = a ∨ H b = some (.own a)) → h.get? b = some u → h'.get? b = some u)
   (ho : ∀ b, H b = some (.own a) → H' b = some (.own a)) (ht : ∀ b xs, H b = some (.tup xs) → H' b = some (.tup xs)) : ObjOk P w H' h' a o := by
 induction o with
 | lst xs => obtain ⟨z, its, n, r, e⟩ := x; exact ⟨z, its, n, r, k _ _ (.inl rfl) e⟩
 | tup xs => obtain ⟨z, its, r, ob, e, c⟩ := x; exact ⟨z, its, r, ob, k _ _ (.inl rfl) e, c⟩
 | dK kvs => obtain ⟨z, y, vs, r, ob, es, ep, e, c⟩ := x; exact ⟨z, y, vs, r, ob, es, ep, k _ _ (.inl rfl) e, c⟩
 | dT kvs =>
   obtain ⟨z, y, xs, r, ob, es, ep, e, c⟩ := x
   exact ⟨z, y, xs, Paired.mapP r fun p q z => ⟨z.1, ht _ _ z.2.1, z.2.2⟩, ob, es, ep, k _ _ (.inl rfl) e, c⟩
 | set S n => obtain ⟨ob, es, ep, t, e, c⟩ := x; exact ⟨ob, es, ep, t, k _ _ (.inl rfl) e, c⟩
 | ins C dx fs =>
   obtain ⟨d, z, ne, e, mA, ⟨od, es, ep, e2, c⟩, r⟩ := x
   exact ⟨ho _ d, z, ne, k _ _ (.inl rfl) e, mA, ⟨od, es, ep, k _ _ (.inr d) e2, c⟩, r⟩
 | own y => obtain ⟨ob, e⟩ := x; exact ⟨ob, k _ _ (.inl rfl) e⟩
 | xd fs => obtain ⟨mA, ⟨od, es, ep, e, c⟩, r⟩ := x; exact ⟨mA, ⟨od, es, ep, k _ _ (.inl rfl) e, c⟩, r⟩
 | rng lo hi => obtain ⟨t, u, v, e⟩ := x; exact ⟨t, u, v, k _ _ (.inl rfl) e⟩
 | frz ob u ih => obtain ⟨e, q⟩ := x; exact ⟨k _ _ (.inl rfl) e, ih q⟩
 | tbl ps =>
   have e : h.get? a = some { cls := .none, data := .fields ps } := x
   show h'.get? a = some { cls := .none, data := .fields ps }
   exact k a _ (.inl rfl) e
 | met f y =>
   have e : h.get? a = some (PySem.W.methodObj (.ref f) (.ref y)) := x
   show h'.get? a = some (PySem.W.methodObj (.ref f) (.ref y))
   exact k a _ (.inl rfl) e
 | ext φ => obtain ⟨p, ⟨o, e⟩, st⟩ := x; exact ⟨st _ _ p fun o q => k _ _ (.inl rfl) q, ⟨o, k _ _ (.inl rfl) e⟩, st⟩
theorem HOk.lt (x : HOk P w H h) (e : H a = some o) : a < h.objs.size := (x a o e).lt
theorem HOk.fresh (x : HOk P w H h) (e : h.objs.size ≤ a) : H a = none := by
 cases q : H a with
 | none => rfl
 | some u => exact absurd (Nat.lt_of_lt_of_le (x.lt q) e) (Nat.lt_irrefl _)
theorem HOk.kept (x : HOk P w H h) (k : ∀ b u, h.get? b = some u → h'.get? b = some u) : HOk P w H h' := fun a o e =>
 (x a o e).stay (fun b u _ q => k b u q) (fun _ q => q) fun _ _ q => q
theorem HOk.laid (x : HOk P w H h) (k : ∀ b u, h.get? b = some u → h'.get? b = some u) (hp : h.objs.size ≤ a) (new : ObjOk P w (upd H a o) h' a o) : HOk P w (upd H a o) h' := fun b u e => by
 have hn := x.fresh hp
 by_cases hb : b = a
 · subst hb; rw [upd_same] at e; cases e; exact new
 · rw [upd_ne hb] at e
   exact (x b u e).stay (fun c v _ q => k c v q) (fun c q => by rw [upd_ne (ne_of_none q hn)]; exact q) fun c xs q => by rw [upd_ne (ne_of_none q hn)]; exact q
end
def Rd (H : Hp) (a : Addr) (u : HO) : Prop := H a = some u ∨ ∃ o, H a = some (.frz o u)
theorem Rd.of {H : Hp} {a : Addr} {u : HO} (h : H a = some u) : Rd H a u := .inl h
theorem Rd.ok {P : Program} {w : World} {H : Hp} {h : Heap} {a : Addr} {u : HO} (r : Rd H a u) (x : HOk P w H h) : ObjOk P w H h a u := by
 rcases r with r | ⟨o, r⟩
 · exact x a u r
 · obtain ⟨_, q⟩ := x a _ r
   exact q
def Mut : Option HO → Prop
 | some (.lst _) => True
 | some (.dK _) => True
 | some (.dT _) => True
 | some (.set _ _) => True
 | some (.ins _ _ _) => True
 | some (.ext _) => True
 | _ => False
section
variable {P : Program} {w : World} {H : Hp} {h h' : Heap} {x e : Addr} {o' : HO}
theorem HOk.write (ok : HOk P w H h) (mu : Mut (H x)) (he : e = x ∨ H e = some (.own x)) (k : ∀ b u, b ≠ e → h.get? b = some u → h'.get? b = some u) (heo : ∃ u, h'.get? e = some u)
   (new : ObjOk P w (upd H x o') h' x o') : HOk P w (upd H x o') h' := fun b u q => by
 have nown : ∀ c y, H c = some (.own y) → c ≠ x := fun c y r z => by subst z; rw [r] at mu; exact mu
 have ntup : ∀ c xs, H c = some (.tup xs) → c ≠ x := fun c xs r z => by subst z; rw [r] at mu; exact mu
 by_cases hb : b = x
 · subst hb; rw [upd_same] at q; cases q; exact new
 · rw [upd_ne hb] at q
   by_cases hbe : b = e
   · have q' : H b = some (.own x) := by
       rcases he with z | z
       · exact absurd (hbe.trans z) hb
       · rw [hbe]; exact z
     rw [q] at q'; cases q'
     obtain ⟨v, hv⟩ := heo
     exact ⟨v, by rw [hbe]; exact hv⟩
   · refine (ok b u q).stay (fun c v hc r => k c v ?_ r) (fun c r => by rw [upd_ne (nown c b r)]; exact r) fun c xs r => by rw [upd_ne (ntup c xs r)]; exact r
     rcases hc with rfl | hc
     · exact hbe
     · rintro rfl
       rcases he with z | z
       · exact nown c b hc z
       · rw [hc] at z; cases z; exact hb rfl
end
structure Un (fs ex : List Addr) (H H' : Hp) (h h' : Heap) : Prop where
 keep : ∀ b o, h.get? b = some o → H b = none → b ∉ fs → b ∉ ex → h'.get? b = some o
 slot : ∀ b o, h.get? b = some o → H b = none → b ∈ fs → b ∉ ex → ∃ sl, h'.get? b = some { o with slots := sl }
 free : ∀ b o, h.get? b = some o → H b = none → b ∉ ex → H' b = none
 there : ∀ b o, h.get? b = some o → b ∉ ex → ∃ o', h'.get? b = some o'
 tups : ∀ b xs, H b = some (.tup xs) → H' b = some (.tup xs)
 frzs : ∀ b o u, H b = some (.frz o u) → H' b = some (.frz o u)
 tbls : ∀ b ps, H b = some (.tbl ps) → ∃ more, H' b = some (.tbl (ps ++ more))
section
variable {fs fs' ex ex' : List Addr} {H H1 H2 : Hp} {h h1 h2 h' : Heap} {a x e : Addr} {o : HO}
theorem Un.any (u : Un fs ex H H1 h h1) {b : Addr} {ob : Obj} (q : h.get? b = some ob) (n : H b = none) (hx : b ∉ ex) : ∃ sl, h1.get? b = some { ob with slots := sl } := by
 by_cases hb : b ∈ fs
 · exact u.slot b ob q n hb hx
 · exact ⟨ob.slots, u.keep b ob q n hb hx⟩
theorem Un.trans (a : Un fs ex H H1 h h1) (b : Un fs ex H1 H2 h1 h2) : Un fs ex H H2 h h2 where
 keep := fun c ob q n hc hx => b.keep c ob (a.keep c ob q n hc hx) (a.free c ob q n hx) hc hx
 slot := fun c ob q n hc hx => by
   obtain ⟨sl, e1⟩ := a.slot c ob q n hc hx
   obtain ⟨sl', e2⟩ := b.slot c _ e1 (a.free c ob q n hx) hc hx
   exact ⟨sl', e2⟩
 free := fun c ob q n hx => by
   obtain ⟨o', e1⟩ := a.there c ob q hx
   exact b.free c o' e1 (a.free c ob q n hx) hx
 there := fun c ob q hx => by
   obtain ⟨o', e1⟩ := a.there c ob q hx
   exact b.there c o' e1 hx
 tups := fun c xs q => b.tups c xs (a.tups c xs q)
 frzs := fun c ob xs q => b.frzs c ob xs (a.frzs c ob xs q)
 tbls := fun c ps q => by
   obtain ⟨m1, e1⟩ := a.tbls c ps q
   obtain ⟨m2, e2⟩ := b.tbls c _ e1
   exact ⟨m1 ++ m2, by rw [e2, Array.append_assoc]⟩
theorem Un.kept (k : ∀ b u, h.get? b = some u → h'.get? b = some u) : Un fs ex H H h h' :=
 ⟨fun b ob q _ _ _ => k b ob q, fun b ob q _ _ _ => ⟨ob.slots, k b ob q⟩, fun _ _ _ n _ => n, fun b ob q _ => ⟨ob, k b ob q⟩, fun _ _ q => q, fun _ _ _ q => q, fun _ ps q => ⟨#[], by rw [q]; simp⟩⟩
theorem Un.refl : Un fs ex H H h h := Un.kept fun _ _ q => q
theorem Un.laid (k : ∀ b u, h.get? b = some u → h'.get? b = some u) (hp : h.objs.size ≤ a) (hn : H a = none) : Un fs ex H (upd H a o) h h' where
 keep := fun b u q _ _ _ => k b u q
 slot := fun b u q _ _ _ => ⟨u.slots, k b u q⟩
 free := fun b u q n _ => by rw [upd_ne (Nat.ne_of_lt (Nat.lt_of_lt_of_le (Heap.lt_size q) hp))]; exact n
 there := fun b u q _ => ⟨u, k b u q⟩
 tups := fun b xs q => by rw [upd_ne (ne_of_none q hn)]; exact q
 frzs := fun b u xs q => by rw [upd_ne (ne_of_none q hn)]; exact q
 tbls := fun b ps q => ⟨#[], by rw [upd_ne (ne_of_none q hn), q]; simp⟩
theorem Un.write (mu : Mut (H x)) (he : e = x ∨ H e = some (.own x)) (k : ∀ b u, b ≠ e → h.get? b = some u → h'.get? b = some u) (heo : ∃ u, h'.get? e = some u) : Un fs ex H (upd H x o) h h' := by
 have hx : ∀ b, H b = none → b ≠ x := fun b n z => by subst z; rw [n] at mu; exact mu
 have hb : ∀ b, H b = none → b ≠ e := fun b n z => by
   subst z
   rcases he with r | r
   · exact hx b n r
   · rw [n] at r; cases r
 have hm : ∀ b u, H b = some u → ¬ Mut (some u) → b ≠ x := fun b u q nm z => by subst z; rw [q] at mu; exact nm mu
 refine ⟨fun b u q n _ _ => k b u (hb b n) q, fun b u q n _ _ => ⟨u.slots, k b u (hb b n) q⟩, fun b u q n _ => by rw [upd_ne (hx b n)]; exact n, fun b u q _ => ?_,
   fun b xs q => by rw [upd_ne (hm b _ q fun z => z)]; exact q, fun b u xs q => by rw [upd_ne (hm b _ q fun z => z)]; exact q, fun b ps q => ⟨#[], by rw [upd_ne (hm b _ q fun z => z), q]; simp⟩⟩
 by_cases hbe : b = e
 · subst hbe; exact heo
 · exact ⟨u, k b u hbe q⟩
theorem Un.mono (u : Un fs ex H H1 h h1) (hs : ∀ b ∈ fs, b ∈ fs') (hx : ∀ b ∈ ex, b ∈ ex') : Un fs' ex' H H1 h h1 :=
 ⟨fun b ob q n hb he => u.keep b ob q n (fun z => hb (hs b z)) fun z => he (hx b z), fun _ _ q n _ he => u.any q n fun z => he (hx _ z), fun b ob q n he => u.free b ob q n fun z => he (hx b z), fun b ob q he => u.there b ob q fun z => he (hx b z), u.tups, u.frzs, u.tbls⟩
end
def trk (h : Heap) (H : Hp) : List Addr := (List.range h.objs.size).filter fun a => (H a).isSome
def hidT (h : Heap) (H : Hp) : Heap := PySem.W.hideAll h (trk h H)
theorem hidT_size (h : Heap) (H : Hp) : (hidT h H).objs.size = h.objs.size := PySem.W.hideAll_size _ _
theorem hidT_get {h : Heap} {H : Hp} {b : Addr} {o : Obj} (e : h.get? b = some o) (n : H b = none) : (hidT h H).get? b = some o :=
 PySem.W.hideAll_get _ e fun hm => by
   have q : (H b).isSome = true := (List.mem_filter.mp hm).2
   rw [n] at q; simp at q
theorem of_hidT {h : Heap} {H : Hp} {b : Addr} {o : Obj} (e : (hidT h H).get? b = some o) : h.get? b = some o ∧ H b = none := by
 have e' : h.get? b = some o := PySem.W.of_hideAll (trk h H) e
 refine ⟨e', ?_⟩
 cases q : H b with
 | none => rfl
 | some x =>
   have hm : b ∈ trk h H := List.mem_filter.mpr ⟨List.mem_range.mpr (Heap.lt_size e'), by simp [q]⟩
   have z : (hidT h H).get? b = none := PySem.W.hideAll_none (trk h H) hm
   rw [z] at e; cases e
def allNews (g h : Heap) (L : Addr) : List (Addr × Obj) := (List.range h.objs.size).filterMap fun a => if a = L ∨ (g.get? a).isSome = true then none else (h.get? a).map fun o => (a, o)
def rest (g h : Heap) (L d : Addr) : List (Addr × Obj) := (allNews g h L).filter fun p => decide (p.1 ≠ d)
end L2

namespace L2
open PySem PySem.Spec PyProof.Rows
structure Mod (K : PySem.W.Frag) (mg : Str → Option Value) (base : Heap) : Prop where
 kin : K.In base
 glob : base.Ns mainGlobals mg
 blt : ∃ mb, base.Ns builtinsNs mb ∧ ∀ x : Str, x ≠ "__name__" → mb x = bootBuiltins x
 nolimit : base.NoLimit

/-- the context: a def's body (or a comprehension's block) running. base: fixed through the whole law; s₀, H₀: the entry; outer: the frames whose slots others may change (a def's callers); stack: all frames that run;
   ex: iterators that were made ahead of the entry and are walked here (a comprehension's); fn: the names whose cells were made at the entry (a def: all; a comprehension's block: its own); calm: not within an except suite; pn: pins that every state bears; xe: what is wanted of an exception that leaves the code -/
structure Cx where
 prog : Program
 w : World
 K : PySem.W.Frag
 mg : Str → Option Value
 base : Heap
 A : Around
 N : List Str
 s₀ : Shared
 H₀ : Hp
 env : Env
 outer : List Env
 stack : List Env
 ex : List Addr
 fn : Str → Bool
 calm : Bool
 pn : List (Addr × Obj)
 xe : Value → Shared → Prop
def frs (l : List Env) : List Addr := l.filterMap (·.frame)
abbrev Cx.fs (X : Cx) : List Addr := frs X.outer

def Vis (sc : Scope) (x : Str) : Prop := sc.names.lookup x = some .local ∨ sc.names.lookup x = some .cell ∨ sc.names.lookup x = some .free
def Loc (sc : Scope) (x : Str) : Prop := sc.names.lookup x = some .local ∨ sc.names.lookup x = some .cell
def Look (env : Env) (h : Heap) (m : Str → Option Value) (x : Str) (u : Value) : Prop :=
 (env.kindOf x = some .local ∧ m x = some u) ∨ ((env.kindOf x = some .cell ∨ env.kindOf x = some .free) ∧ ∃ c, env.cells.lookup x = some c ∧ h.IsCell c (some u))

structure Cx.Ok (X : Cx) : Prop where
 mod : Mod X.K X.mg X.base
 kind : X.env.scope.kind = .function
 glob : X.env.globals = mainGlobals
 blt : X.env.builtins = builtinsNs
 above : X.s₀.heap.objs.size ≤ X.env.locals
 inj : ∀ x y c, X.env.cells.lookup x = some c → X.env.cells.lookup y = some c → x = y
 has : ∀ x, (X.env.kindOf x = some .cell ∨ X.env.kindOf x = some .free) → ∃ c, X.env.cells.lookup x = some c
 cab : ∀ x c, X.fn x = true → X.env.cells.lookup x = some c → X.s₀.heap.objs.size ≤ c
 hd : X.calm = true → X.A.handled = none
 frames : X.A.frames = some X.stack
 stk : X.stack = X.outer ∨ (X.stack = X.env :: X.outer ∧ X.env.frame = some X.env.locals)
 exf : ∀ b ∈ X.ex, b ≠ X.env.locals ∧ ∀ x c, X.env.cells.lookup x = some c → c ≠ b
 bs : ∀ b o, X.base.get? b = some o → X.s₀.heap.get? b = some o ∧ X.H₀ b = none
 bsz : X.base.objs.size ≤ X.s₀.heap.objs.size
 noex : ∀ b o, X.base.get? b = some o → b ∉ X.ex
 exfs : ∀ b ∈ X.ex, b ∉ X.fs
 funs : X.s₀.heap.FunFrames X.base X.outer
 frf : ∀ b ∈ X.fs, X.H₀ b = none

structure Inv (X : Cx) (pins : List (Addr × Obj)) (σ : List (Option V)) (H : Hp) (s : Shared) : Prop where
 ok : X.Ok
 os : s.os = X.s₀.os
 bare : AllBare s.gens
 base : Un X.fs X.ex X.H₀ H X.s₀.heap s.heap
 loc : ∃ m, s.heap.Ns X.env.locals m ∧ ∀ (i : Nat) (x : Str) (v : V), X.N[i]? = some x → σ[i]? = some (some v) → Vis X.env.scope x → ∃ u, RelV v u ∧ Look X.env s.heap m x u
 cell : ∀ x c, X.env.cells.lookup x = some c → ∃ v, s.heap.IsCell c v
 free : H X.env.locals = none
 freeC : ∀ x c, X.env.cells.lookup x = some c → H c = none
 pin : ∀ p ∈ X.pn ++ pins, s.heap.get? p.1 = some p.2 ∧ H p.1 = none ∧ p.1 ≠ X.env.locals ∧ p.1 ∉ X.fs ∧ ∀ v, p.2.data ≠ .cell v
 hok : HOk X.prog X.w H s.heap
 len : σ.length = X.N.length

section
variable {X : Cx} {pins : List (Addr × Obj)} {σ : List (Option V)} {H H' : Hp} {s : Shared} {h' : Heap}

theorem Cx.Ok.nofr (ok : X.Ok) {b : Addr} {o : Obj} (e : X.base.get? b = some o) : b ∉ X.fs := fun hb => by
 have := (ok.funs.mem hb).1
 rw [e] at this; cases this
theorem Inv.bs (I : Inv X pins σ H s) : ∀ b o, X.base.get? b = some o → s.heap.get? b = some o ∧ H b = none := fun b o e =>
 ⟨I.base.keep b o (I.ok.bs b o e).1 (I.ok.bs b o e).2 (I.ok.nofr e) (I.ok.noex b o e), I.base.free b o (I.ok.bs b o e).1 (I.ok.bs b o e).2 (I.ok.noex b o e)⟩
theorem Inv.bk (I : Inv X pins σ H s) : ∀ b o, X.base.get? b = some o → s.heap.get? b = some o := fun b o e => (I.bs b o e).1
theorem Inv.mod (I : Inv X pins σ H s) : Mod X.K X.mg X.base := I.ok.mod
theorem Inv.kIn (I : Inv X pins σ H s) : X.K.In s.heap := I.ok.mod.kin.keeps I.bk
theorem Inv.nolimit (I : Inv X pins σ H s) : s.heap.NoLimit := I.ok.mod.nolimit.keeps I.bk
theorem Inv.fr (I : Inv X pins σ H s) : ∃ m, Fr X.base X.env.locals s.heap m :=
 let ⟨m, hn, _⟩ := I.loc
 ⟨m, hn, I.bk, Nat.le_trans I.ok.bsz I.ok.above⟩
theorem Inv.lt (I : Inv X pins σ H s) : X.env.locals < s.heap.objs.size := let ⟨_, hn, _⟩ := I.loc; hn.lt
theorem Inv.sz (I : Inv X pins σ H s) : X.s₀.heap.objs.size ≤ s.heap.objs.size := Nat.le_trans I.ok.above (Nat.le_of_lt I.lt)
theorem Inv.nofs (I : Inv X pins σ H s) {a : Addr} (h : s.heap.objs.size ≤ a) : a ∉ X.fs := fun hb => by
 obtain ⟨_, o, ho, _⟩ := I.ok.funs.mem hb
 exact absurd (Nat.lt_of_lt_of_le (Heap.lt_size ho) (Nat.le_trans I.sz h)) (Nat.lt_irrefl _)
theorem Inv.cne (I : Inv X pins σ H s) : ∀ x c, X.env.cells.lookup x = some c → c ≠ X.env.locals := fun x c e z => by
 obtain ⟨v, o, ho, hd⟩ := I.cell x c e
 obtain ⟨m, ⟨o', es, ep, ho', hd', _⟩, _⟩ := I.loc
 rw [z, ho'] at ho; cases ho; rw [hd'] at hd; cases hd
theorem Inv.funs (I : Inv X pins σ H s) : s.heap.FunFrames X.base X.outer := by
 have all : ∀ (l : List Env), (∀ b ∈ frs l, b ∈ X.fs) → X.s₀.heap.FunFrames X.base l → s.heap.FunFrames X.base l := by
   intro l
   induction l with
   | nil => intro _ _; trivial
   | cons env r ih =>
     intro hs hl
     obtain ⟨hk, ⟨L, o, hf, hn, ho, hd⟩, hr⟩ := hl
     have hL : L ∈ X.fs := hs L (by unfold frs; rw [List.filterMap_cons, hf]; exact List.mem_cons_self)
     obtain ⟨sl, e⟩ := I.base.slot L o ho (I.ok.frf L hL) hL fun z => I.ok.exfs L z hL
     exact ⟨hk, ⟨L, _, hf, hn, e, hd⟩, ih (fun b hb => hs b (by unfold frs; rw [List.filterMap_cons, hf]; exact List.mem_cons_of_mem _ hb)) hr⟩
 exact all X.outer (fun _ hb => hb) I.ok.funs
theorem Inv.stack (I : Inv X pins σ H s) : s.heap.FunFrames X.base X.stack := by
 rcases I.ok.stk with e | ⟨e, hf⟩
 · rw [e]; exact I.funs
 · rw [e]
   obtain ⟨m, hn, _⟩ := I.loc
   refine .cons (by rw [I.ok.kind]; decide) hf hn ?_ I.funs
   exact Heap.get?_none_of_le (Nat.le_trans I.ok.bsz I.ok.above)
theorem Inv.stkSub (I : Inv X pins σ H s) : ∀ b ∈ frs X.stack, b ∈ X.env.locals :: X.fs := fun b hb => by
 rcases I.ok.stk with e | ⟨e, hf⟩
 · rw [e] at hb; exact List.mem_cons_of_mem _ hb
 · rw [e] at hb
   unfold frs at hb
   rw [List.filterMap_cons, hf] at hb
   exact hb
theorem Inv.stkFree (I : Inv X pins σ H s) : ∀ b ∈ frs X.stack, H b = none := fun b hb => by
 rcases List.mem_cons.mp (I.stkSub b hb) with e | hb
 · rw [e]; exact I.free
 · obtain ⟨_, o, ho, _⟩ := I.ok.funs.mem hb
   exact I.base.free b o ho (I.ok.frf b hb) fun z => I.ok.exfs b z hb
theorem Inv.step {g' : Array GenState} {t' : Nat} {d' : Drawn} {ch : List Addr} (I : Inv X pins σ H s)
   (hch : ∀ b ∈ ch, (b ∈ X.ex ∨ X.s₀.heap.objs.size ≤ b) ∧ b ≠ X.env.locals ∧ (∀ x c, X.env.cells.lookup x = some c → c ≠ b) ∧ ∀ p ∈ X.pn ++ pins, p.1 ≠ b)
   (keep : ∀ b o, b ≠ X.env.locals → b ∉ X.fs → b ∉ ch → s.heap.get? b = some o → H b = none → h'.get? b = some o)
   (slot : ∀ b o, b ≠ X.env.locals → b ∈ X.fs → b ∉ ch → s.heap.get? b = some o → H b = none → ∃ sl, h'.get? b = some { o with slots := sl }) (free : ∀ b o, b ∉ ch → s.heap.get? b = some o → H b = none → H' b = none)
   (there : ∀ b o, b ∉ ch → s.heap.get? b = some o → ∃ o', h'.get? b = some o')
   (tups : ∀ b xs, H b = some (.tup xs) → H' b = some (.tup xs)) (frzs : ∀ b o u, H b = some (.frz o u) → H' b = some (.frz o u)) (tbls : ∀ b ps, H b = some (.tbl ps) → ∃ more, H' b = some (.tbl (ps ++ more)))
   (ns : ∀ m, s.heap.Ns X.env.locals m → h'.Ns X.env.locals m) (hok : HOk X.prog X.w H' h') (hg : AllBare g') :
   Inv X pins σ H' { s with heap := h', gens := g', drawn := d', toks := t' } := by
 have neL : ∀ b o, X.s₀.heap.get? b = some o → b ≠ X.env.locals := fun b o e => Nat.ne_of_lt (Nat.lt_of_lt_of_le (Heap.lt_size e) I.ok.above)
 have neC : ∀ b o, X.s₀.heap.get? b = some o → b ∉ X.ex → b ∉ ch := fun b o e hx hb => by
   rcases (hch b hb).1 with z | z
   · exact hx z
   · exact absurd (Nat.lt_of_lt_of_le (Heap.lt_size e) z) (Nat.lt_irrefl _)
 have cellK : ∀ x c, X.env.cells.lookup x = some c → ∀ v, s.heap.IsCell c v → h'.IsCell c v := fun x c e v ⟨o, ho, hd⟩ => by
   have nch : c ∉ ch := fun z => (hch c z).2.2.1 x c e rfl
   by_cases hc : c ∈ X.fs
   · obtain ⟨sl, q⟩ := slot c o (I.cne x c e) hc nch ho (I.freeC x c e)
     exact ⟨_, q, hd⟩
   · exact ⟨o, keep c o (I.cne x c e) hc nch ho (I.freeC x c e), hd⟩
 refine ⟨I.ok, I.os, hg, ⟨fun b o e n hb hx => ?_, fun b o e n hb hx => ?_, fun b o e n hx => ?_, fun b o e hx => ?_, fun b xs e => tups b xs (I.base.tups b xs e), fun b o xs e => frzs b o xs (I.base.frzs b o xs e), fun b ps e => ?_⟩, ?_, fun x c e => ?_, ?_, fun x c e => ?_, fun p hp => ?_, hok, I.len⟩
 · exact keep b o (neL b o e) hb (neC b o e hx) (I.base.keep b o e n hb hx) (I.base.free b o e n hx)
 · obtain ⟨sl, e1⟩ := I.base.slot b o e n hb hx
   obtain ⟨sl', e2⟩ := slot b _ (neL b o e) hb (neC b o e hx) e1 (I.base.free b o e n hx)
   exact ⟨sl', e2⟩
 · obtain ⟨o', e1⟩ := I.base.there b o e hx
   exact free b o' (neC b o e hx) e1 (I.base.free b o e n hx)
 · obtain ⟨o', e1⟩ := I.base.there b o e hx
   exact there b o' (neC b o e hx) e1
 · obtain ⟨m1, e1⟩ := I.base.tbls b ps e
   obtain ⟨m2, e2⟩ := tbls b _ e1
   exact ⟨m1 ++ m2, by rw [e2, Array.append_assoc]⟩
 · obtain ⟨m, hn, hl⟩ := I.loc
   refine ⟨m, ns m hn, fun i x v e1 e2 e3 => ?_⟩
   obtain ⟨u, r, l⟩ := hl i x v e1 e2 e3
   refine ⟨u, r, ?_⟩
   rcases l with l | ⟨k, c, e, z⟩
   · exact .inl l
   · exact .inr ⟨k, c, e, cellK x c e _ z⟩
 · obtain ⟨v, z⟩ := I.cell x c e
   exact ⟨v, cellK x c e v z⟩
 · obtain ⟨m, ⟨o, _, _, ho, _⟩, _⟩ := I.loc
   exact free _ o (fun z => (hch _ z).2.1 rfl) ho I.free
 · obtain ⟨v, o, ho, hd⟩ := I.cell x c e
   exact free c o (fun z => (hch c z).2.2.1 x c e rfl) ho (I.freeC x c e)
 · obtain ⟨e, n, ne, nf, d⟩ := I.pin p hp
   have nch : p.1 ∉ ch := fun z => (hch p.1 z).2.2.2 p hp rfl
   exact ⟨keep p.1 p.2 ne nf nch e n, free p.1 p.2 nch e n, ne, nf, d⟩
theorem Inv.un {t' : Nat} (I : Inv X pins σ H s) (u : Un X.fs [] H H' s.heap h') (hok : HOk X.prog X.w H' h') : Inv X pins σ H' { s with heap := h', toks := t' } := by
 obtain ⟨m, ⟨o, es, ep, ho, r⟩, _⟩ := id I.loc
 obtain ⟨sl, hL⟩ := u.any ho I.free (by simp)
 exact I.step (g' := s.gens) (d' := s.drawn) (ch := []) (fun _ z => nomatch z) (fun b o _ hb _ e n => u.keep b o e n hb (by simp)) (fun b o _ hb _ e n => u.slot b o e n hb (by simp)) (fun b o _ e n => u.free b o e n (by simp)) (fun b o _ e => u.there b o e (by simp)) u.tups u.frzs u.tbls (fun m' hm => by
   obtain ⟨o', es', ep', ho', r'⟩ := hm
   rw [ho] at ho'; cases ho'
   exact ⟨_, es', ep', hL, r'⟩) hok I.bare
theorem Inv.call {g' : Array GenState} {t' : Nat} {d' : Drawn} {ch : List Addr} (I : Inv X pins σ H s) (u : Un (frs X.stack) ch H H' s.heap h') (hok : HOk X.prog X.w H' h') (hg : AllBare g')
   (hch : ∀ b ∈ ch, (b ∈ X.ex ∨ X.s₀.heap.objs.size ≤ b) ∧ b ≠ X.env.locals ∧ (∀ x c, X.env.cells.lookup x = some c → c ≠ b) ∧ ∀ p ∈ X.pn ++ pins, p.1 ≠ b) :
   Inv X pins σ H' { s with heap := h', gens := g', drawn := d', toks := t' } := by
 obtain ⟨m, ⟨o, es, ep, ho, r⟩, _⟩ := id I.loc
 obtain ⟨sl, hL⟩ := u.any ho I.free fun z => (hch _ z).2.1 rfl
 exact I.step (ch := ch) hch (fun b o hL hb hc e n => u.keep b o e n (fun z => (List.mem_cons.mp (I.stkSub b z)).elim hL hb) hc) (fun b o _ _ hc e n => u.any e n hc) (fun b o hc e n => u.free b o e n hc) (fun b o hc e => u.there b o e hc) u.tups u.frzs u.tbls (fun m' hm => by
   obtain ⟨o', es', ep', ho', r'⟩ := hm
   rw [ho] at ho'; cases ho'
   exact ⟨_, es', ep', hL, r'⟩) hok hg
theorem Inv.turned {t' : Nat} {it : Addr} (I : Inv X pins σ H s) (k : ∀ b o, b ≠ it → s.heap.get? b = some o → h'.get? b = some o) (hn : H it = none) (hL : it ≠ X.env.locals)
   (h1 : it ∈ X.ex ∨ X.s₀.heap.objs.size ≤ it) (h2 : ∀ x c, X.env.cells.lookup x = some c → c ≠ it) (h3 : ∀ p ∈ X.pn ++ pins, p.1 ≠ it) : Inv X pins σ H { s with heap := h', toks := t' } := by
 have nit : ∀ b u, H b = some u → b ≠ it := fun b u e z => by rw [z, hn] at e; cases e
 refine I.step (g' := s.gens) (d' := s.drawn) (ch := [it]) (fun b hb => ?_) (fun b o _ _ hc e _ => k b o (fun z => hc (by simp [z])) e) (fun b o _ _ hc e _ => ⟨o.slots, k b o (fun z => hc (by simp [z])) e⟩) (fun _ _ _ _ n => n)
   (fun b o hc e => ⟨o, k b o (fun z => hc (by simp [z])) e⟩) (fun _ _ e => e) (fun _ _ _ e => e) (fun b ps e => ⟨#[], by rw [e]; simp⟩) (fun m hm => ?_) (fun b u e => ?_) I.bare
 · have e : b = it := by simpa using hb
   subst e
   exact ⟨h1, hL, h2, h3⟩
 · obtain ⟨o, es, ep, ho, r⟩ := hm
   exact ⟨o, es, ep, k _ o (Ne.symm hL) ho, r⟩
 · refine (I.hok b u e).stay (fun c v hc q => k c v ?_ q) (fun _ q => q) fun _ _ q => q
   rcases hc with z | z
   · rw [z]; exact nit b u e
   · exact nit c _ z
theorem Inv.tok (I : Inv X pins σ H s) (t : Nat) : Inv X pins σ H { s with toks := t } := I.un (h' := s.heap) (t' := t) Un.refl I.hok
theorem Inv.kept {t' : Nat} (I : Inv X pins σ H s) (k : ∀ b u, s.heap.get? b = some u → h'.get? b = some u) : Inv X pins σ H { s with heap := h', toks := t' } := I.un (Un.kept k) (I.hok.kept k)
theorem Inv.laid {a : Addr} {o : HO} {t' : Nat} (I : Inv X pins σ H s) (k : ∀ b u, s.heap.get? b = some u → h'.get? b = some u) (hp : s.heap.objs.size ≤ a) (new : ObjOk X.prog X.w (upd H a o) h' a o) :
 Inv X pins σ (upd H a o) { s with heap := h', toks := t' } := I.un (Un.laid k hp (I.hok.fresh hp)) (I.hok.laid k hp new)
theorem Inv.write {x e : Addr} {o : HO} {t' : Nat} (I : Inv X pins σ H s) (mu : Mut (H x)) (he : e = x ∨ H e = some (.own x)) (k : ∀ b u, b ≠ e → s.heap.get? b = some u → h'.get? b = some u) (heo : ∃ u, h'.get? e = some u)
 (new : ObjOk X.prog X.w (upd H x o) h' x o) : Inv X pins σ (upd H x o) { s with heap := h', toks := t' } := I.un (Un.write mu he k heo) (I.hok.write mu he k heo new)
theorem Inv.weak {σ' : List (Option V)} (I : Inv X pins σ H s) (hl : σ'.length = σ.length) (w : ∀ (i : Nat) v, σ'[i]? = some (some v) → σ[i]? = some (some v)) : Inv X pins σ' H s :=
 ⟨I.ok, I.os, I.bare, I.base, let ⟨m, hn, hl'⟩ := I.loc; ⟨m, hn, fun i x v e1 e2 e3 => hl' i x v e1 (w i v e2) e3⟩, I.cell, I.free, I.freeC, I.pin, I.hok, hl.trans I.len⟩
theorem Inv.pins_of {pins' : List (Addr × Obj)} (I : Inv X pins σ H s) (h : ∀ p ∈ pins', s.heap.get? p.1 = some p.2 ∧ H p.1 = none ∧ p.1 ≠ X.env.locals ∧ p.1 ∉ X.fs ∧ ∀ v, p.2.data ≠ .cell v) : Inv X pins' σ H s :=
 ⟨I.ok, I.os, I.bare, I.base, I.loc, I.cell, I.free, I.freeC, fun p hp => (List.mem_append.mp hp).elim (fun z => I.pin p (List.mem_append_left _ z)) (h p), I.hok, I.len⟩

theorem nodup_ix {N : List Str} (hN : N.Nodup) {i j : Nat} {x : Str} (a : N[i]? = some x) (b : N[j]? = some x) : i = j := by
 obtain ⟨h1, e1⟩ := List.getElem?_eq_some_iff.mp a
 obtain ⟨h2, e2⟩ := List.getElem?_eq_some_iff.mp b
 exact (List.getElem_inj hN).mp (e1.trans e2.symm)
theorem store_ok2 {M : Model} {A : Around} {E : Value → Shared → Prop} {i : Nat} {x : Str} {v : V} {u : Value} {Q : Unit → Shared → Prop} (I : Inv X pins σ H s) (hN : X.N.Nodup) (hi : X.N[i]? = some x) (hx : Loc X.env.scope x) (r : RelV v u)
   (h : ∀ s', Inv X pins (σ.set i (some v)) H s' → (∃ a, Heap.SameBut a s.heap s'.heap ∧ (a = X.env.locals ∨ X.env.cells.lookup x = some a)) → Q () s') (hf : X.fn x = true ∨ X.env.scope.names.lookup x = some .local := by first | exact .inl rfl | exact .inr rfl | assumption) : wpAny M A (storeName X.env x u) Q E s := by
 obtain ⟨m, hn, hl⟩ := id I.loc
 have hcls : (X.env.scope.kind == .class || (X.env.scope.kind == .module && X.env.locals != X.env.globals)) = false := by rw [I.ok.kind]; rfl
 have hiσ : i < σ.length := by rw [I.len]; exact (List.getElem?_eq_some_iff.mp hi).1
 have cne := I.cne
 have tracked : ∀ {a : Addr} {h' : Heap}, (∃ o, s.heap.get? a = some o ∧ H a = none) → Heap.SameBut a s.heap h' → HOk X.prog X.w H h' := fun {a h'} ha hs b ob e => by
   obtain ⟨_, _, hfree⟩ := ha
   refine (I.hok b ob e).stay (fun c w' hc q => (hs.2 c ?_).trans q) (fun _ q => q) fun _ _ q => q
   rintro rfl
   rcases hc with rfl | hc
   · rw [hfree] at e; cases e
   · rw [hfree] at hc; cases hc
 rcases hx with hk | hk
 · refine wpAny_storeName_local hk hn (fun h' hn' hs => ?_) hcls
   obtain ⟨oL, _, _, hoL, _⟩ := id hn
   refine h _ ⟨I.ok, I.os, I.bare, ⟨fun b o e n hb hx => ?_, fun b o e n hb hx => ?_, I.base.free, fun b o e hx => ?_, I.base.tups, I.base.frzs, I.base.tbls⟩, ⟨_, hn', fun j y v' e1 e2 e3 => ?_⟩, fun y c e => ?_, I.free, I.freeC, fun p hp => ?_, tracked ⟨oL, hoL, I.free⟩ hs, by simpa using I.len⟩ ⟨_, hs, .inl rfl⟩
   · exact (hs.2 b (Nat.ne_of_lt (Nat.lt_of_lt_of_le (Heap.lt_size e) I.ok.above))).trans (I.base.keep b o e n hb hx)
   · obtain ⟨sl, e1⟩ := I.base.slot b o e n hb hx
     exact ⟨sl, (hs.2 b (Nat.ne_of_lt (Nat.lt_of_lt_of_le (Heap.lt_size e) I.ok.above))).trans e1⟩
   · obtain ⟨o', e1⟩ := I.base.there b o e hx
     exact ⟨o', (hs.2 b (Nat.ne_of_lt (Nat.lt_of_lt_of_le (Heap.lt_size e) I.ok.above))).trans e1⟩
   · by_cases hj : j = i
     · subst hj
       rw [hi] at e1; cases e1
       rw [List.getElem?_set_self hiσ] at e2
       cases e2
       exact ⟨u, r, .inl ⟨hk, by simp⟩⟩
     · rw [List.getElem?_set_ne (Ne.symm hj)] at e2
       obtain ⟨u', r', q⟩ := hl j y v' e1 e2 e3
       refine ⟨u', r', ?_⟩
       rcases q with ⟨k, e⟩ | ⟨k, c, e, z⟩
       · refine .inl ⟨k, ?_⟩
         have : y ≠ x := fun e => hj (nodup_ix hN e1 (e ▸ hi))
         simp [this, e]
       · exact .inr ⟨k, c, e, z.sameBut hs (cne y c e)⟩
   · obtain ⟨w', z⟩ := I.cell y c e
     exact ⟨w', z.sameBut hs (cne y c e)⟩
   · obtain ⟨e, n, ne, nf, d⟩ := I.pin p hp
     exact ⟨(hs.2 p.1 ne).trans e, n, ne, nf, d⟩
 · have hfn : X.fn x = true := by
     rcases hf with z | z
     · exact z
     · rw [z] at hk; cases hk
   obtain ⟨c, hc⟩ := I.ok.has x (.inl hk)
   obtain ⟨w', z⟩ := I.cell x c hc
   refine wpAny_storeName_cell I.ok.kind hk hc z (fun h' hc' hs => ?_)
   obtain ⟨oc, hoc, hocd⟩ := id z
   refine h { s with heap := h' } ⟨I.ok, I.os, I.bare, ⟨fun b o e n hb hx => ?_, fun b o e n hb hx => ?_, I.base.free, fun b o e hx => ?_, I.base.tups, I.base.frzs, I.base.tbls⟩, ⟨m, hn.sameBut hs (Ne.symm (cne x c hc)), fun j y v' e1 e2 e3 => ?_⟩, fun y c' e => ?_, I.free, I.freeC, fun p hp => ?_, tracked ⟨oc, hoc, I.freeC x c hc⟩ hs, by simpa using I.len⟩ ⟨c, hs, .inr hc⟩
   · exact (hs.2 b (Nat.ne_of_lt (Nat.lt_of_lt_of_le (Heap.lt_size e) (I.ok.cab x c hfn hc)))).trans (I.base.keep b o e n hb hx)
   · obtain ⟨sl, e1⟩ := I.base.slot b o e n hb hx
     exact ⟨sl, (hs.2 b (Nat.ne_of_lt (Nat.lt_of_lt_of_le (Heap.lt_size e) (I.ok.cab x c hfn hc)))).trans e1⟩
   · obtain ⟨o', e1⟩ := I.base.there b o e hx
     exact ⟨o', (hs.2 b (Nat.ne_of_lt (Nat.lt_of_lt_of_le (Heap.lt_size e) (I.ok.cab x c hfn hc)))).trans e1⟩
   · by_cases hj : j = i
     · subst hj
       rw [hi] at e1; cases e1
       rw [List.getElem?_set_self hiσ] at e2
       cases e2
       exact ⟨u, r, .inr ⟨.inl hk, c, hc, hc'⟩⟩
     · rw [List.getElem?_set_ne (Ne.symm hj)] at e2
       obtain ⟨u', r', q⟩ := hl j y v' e1 e2 e3
       refine ⟨u', r', ?_⟩
       rcases q with q | ⟨k, c', e, z'⟩
       · exact .inl q
       · refine .inr ⟨k, c', e, z'.sameBut hs ?_⟩
         rintro rfl
         exact hj (nodup_ix hN e1 (I.ok.inj _ _ _ e hc ▸ hi))
   · by_cases hcc : c' = c
     · subst hcc; exact ⟨_, hc'⟩
     · obtain ⟨w2, z2⟩ := I.cell y c' e
       exact ⟨w2, z2.sameBut hs hcc⟩
   · obtain ⟨e, n, ne, nf, d⟩ := I.pin p hp
     refine ⟨(hs.2 p.1 ?_).trans e, n, ne, nf, d⟩
     intro q
     rw [q, hoc] at e
     have q' : oc = p.2 := Option.some.inj e
     exact d w' (by rw [← q']; exact hocd)
theorem store_ok {M : Model} {A : Around} {E : Value → Shared → Prop} {i : Nat} {x : Str} {v : V} {u : Value} {Q : Unit → Shared → Prop} (I : Inv X pins σ H s) (hN : X.N.Nodup) (hi : X.N[i]? = some x) (hx : Loc X.env.scope x) (r : RelV v u)
   (h : ∀ s', Inv X pins (σ.set i (some v)) H s' → Q () s') (hf : X.fn x = true ∨ X.env.scope.names.lookup x = some .local := by first | exact .inl rfl | exact .inr rfl | assumption) : wpAny M A (storeName X.env x u) Q E s :=
 store_ok2 I hN hi hx r (fun s' I' _ => h s' I') hf
theorem Inv.call' {s' : Shared} {ch : List Addr} (I : Inv X pins σ H s) (ho : s'.os = s.os) (u : Un (frs X.stack) ch H H' s.heap s'.heap) (hok : HOk X.prog X.w H' s'.heap) (hg : AllBare s'.gens)
   (hch : ∀ b ∈ ch, (b ∈ X.ex ∨ X.s₀.heap.objs.size ≤ b) ∧ b ≠ X.env.locals ∧ (∀ x c, X.env.cells.lookup x = some c → c ≠ b) ∧ ∀ p ∈ X.pn ++ pins, p.1 ≠ b) : Inv X pins σ H' s' := by
 obtain ⟨h', g', d', t', o'⟩ := s'
 have e : o' = s.os := ho
 subst e
 exact I.call (g' := g') (t' := t') (d' := d') u hok hg hch
end
abbrev XK := Value → Option Addr → Hp → Prop
abbrev St := List (Option V)
abbrev VK := V → Hp → Prop
abbrev TE := St → Hp → VK → Prop
abbrev TT := St → Hp → (Bool → Hp → Prop) → Prop
abbrev TA := St → Hp → (List V → Hp → Prop) → Prop
structure Ends where
 nx : St → Hp → Prop
 rt : VK
 bk : St → Hp → Prop := fun _ _ => False
 ct : St → Hp → Prop := fun _ _ => False
abbrev TS := Ends → St → Hp → Prop

def EP (X : Cx) (pins : List (Addr × Obj)) (σ : St) (Q : VK) (u : Value) (s' : Shared) : Prop := ∃ v H', Inv X pins σ H' s' ∧ RelV v u ∧ Q v H'
def TP (X : Cx) (pins : List (Addr × Obj)) (σ : St) (Q : Bool → Hp → Prop) (b : Bool) (s' : Shared) : Prop := ∃ H', Inv X pins σ H' s' ∧ Q b H'
def AP (X : Cx) (pins : List (Addr × Obj)) (σ : St) (Q : List V → Hp → Prop) (us : List Value) (s' : Shared) : Prop := ∃ vs H', Inv X pins σ H' s' ∧ Vals vs us ∧ Q vs H'
def SP (X : Cx) (pins : List (Addr × Obj)) (D : Ends) (f : Flow) (s' : Shared) : Prop :=
 match f with
 | .next => ∃ σ' H', Inv X pins σ' H' s' ∧ D.nx σ' H'
 | .brk => ∃ σ' H', Inv X pins σ' H' s' ∧ D.bk σ' H'
 | .cont => ∃ σ' H', Inv X pins σ' H' s' ∧ D.ct σ' H'
 | .ret u => ∃ v σ' H', Inv X pins σ' H' s' ∧ RelV v u ∧ D.rt v H'

def PE (X : Cx) (e : Expr) (t : TE) : Prop :=
 ∀ (pins : List (Addr × Obj)) (s : Shared) (σ : St) (H : Hp) (Q : VK), Inv X pins σ H s → t σ H Q → wpAny (model X.prog X.w) X.A (eval e X.env) (EP X pins σ Q) X.xe s
def PT (X : Cx) (e : Expr) (t : TT) : Prop :=
 ∀ (pins : List (Addr × Obj)) (s : Shared) (σ : St) (H : Hp) (Q : Bool → Hp → Prop), Inv X pins σ H s → t σ H Q → wpAny (model X.prog X.w) X.A (isTrue e X.env (eval e X.env)) (TP X pins σ Q) X.xe s
def PW (X : Cx) (e : Expr) (t : TT) : Prop :=
 ∀ (whole : Sem Value) (pins : List (Addr × Obj)) (s : Shared) (σ : St) (H : Hp) (Q : Bool → Hp → Prop), Inv X pins σ H s → t σ H Q → wpAny (model X.prog X.w) X.A (isTrue e X.env whole) (TP X pins σ Q) X.xe s
theorem PW.pt {X : Cx} {e : Expr} {t : TT} (h : PW X e t) : PT X e t := h _
def PA (X : Cx) (es : List Expr) (t : TA) : Prop :=
 ∀ (pos : Pos) (pins : List (Addr × Obj)) (s : Shared) (σ : St) (H : Hp) (Q : List V → Hp → Prop), Inv X pins σ H s → t σ H Q → wpAny (model X.prog X.w) X.A (spliced (backTo pos (starEach es X.env))) (AP X pins σ Q) X.xe s
def PS (X : Cx) (st : Stmt) (t : TS) : Prop :=
 ∀ (pins : List (Addr × Obj)) (s : Shared) (σ : St) (H : Hp) (D : Ends), Inv X pins σ H s → t D σ H → wpAny (model X.prog X.w) X.A (exec st X.env) (SP X pins D) X.xe s
def PSs (X : Cx) (st : List Stmt) (t : TS) : Prop :=
 ∀ (pins : List (Addr × Obj)) (s : Shared) (σ : St) (H : Hp) (D : Ends), Inv X pins σ H s → t D σ H → wpAny (model X.prog X.w) X.A (execs st X.env) (SP X pins D) X.xe s
theorem thn {α : Type} {t : Sem α} {Q Q' : α → Shared → Prop} {M : Model} {A : Around} {E : Value → Shared → Prop} {s : Shared} (h : wpAny M A t Q E s) (hQ : ∀ a s, Q a s → Q' a s) : wpAny M A t Q' E s := wpAny_mono h hQ fun _ _ x => x
end L2

namespace L2
open PySem PySem.Spec PyProof.Rows
section
variable {X : Cx}
def tVar (i : Nat) : TE := fun σ H Q => ∃ v, σ[i]? = some (some v) ∧ Q v H
def tC (v : V) : TE := fun _ H Q => Q v H
theorem pe_var {i : Nat} {x : Str} {pos : Pos} (hN : X.N[i]? = some x) (hv : Vis X.env.scope x) (hd : (x == ("__debug__" : Str)) = false := by decide) (hcd : (x == ("__classdict__" : Str)) = false := by decide) : PE X (.Name x pos) (tVar i) := by
 intro pins s σ H Q I h
 obtain ⟨v, e, h⟩ := h
 obtain ⟨m, hn, hl⟩ := I.loc
 obtain ⟨u, r, l⟩ := hl i x v hN e hv
 have fin : EP X pins σ Q u s := ⟨v, H, I, r, h⟩
 rcases l with ⟨hk, hm⟩ | ⟨hk, c, hc, hcell⟩
 · exact wpAny_Name (wpAny_loadName_local I.ok.kind hk hn hm fin) hd
 · rcases hk with hk | hk
   · exact wpAny_Name (wpAny_loadName_cell I.ok.kind hk hc hcell fin) hd
   · exact wpAny_Name (wpAny_loadName_free I.ok.kind hk hc hcell fin hcd) hd
theorem pe_int {i j pos} : PE X (.Constant (.int i) j pos) (tC (.int i)) := fun _ _ _ H _ I h => wpAny_Constant_int ⟨.int i, H, I.tok _, ⟨_, rfl⟩, h⟩
theorem pe_bl {b j pos} : PE X (.Constant (.bool b) j pos) (tC (.bl b)) := fun _ _ _ H _ I h => Constant_bool ⟨.bl b, H, I, rfl, h⟩
theorem pe_non {j pos} : PE X (.Constant .none j pos) (tC .non) := fun _ _ _ H _ I h => Constant_none ⟨.non, H, I, rfl, h⟩
theorem pe_str {x j pos} : PE X (.Constant (.str x) j pos) (tC (.str x)) := fun _ _ _ H _ I h => Calls.Constant_str ⟨.str x, H, I.tok _, ⟨_, rfl⟩, h⟩
def Gl (X : Cx) (x : Str) : Prop := X.env.kindOf x = some .globalImplicit
theorem ld_glob {E : Value → Shared → Prop} {pins : List (Addr × Obj)} {s : Shared} {σ : St} {H : Hp} {x : Str} {u : Value} {pos : Pos} {Q : Value → Shared → Prop} (I : Inv X pins σ H s) (hg : Gl X x) (hm : X.mg x = some u) (h : Q u s)
   (hd : (x == ("__debug__" : Str)) = false := by decide) : wpAny (model X.prog X.w) X.A (eval (.Name x pos) X.env) Q E s :=
 Calls.Name_function_global I.ok.kind hg (Calls.loadGlobal_global (by rw [I.ok.glob]; exact I.mod.glob.keeps I.bk) hm h) hd
theorem ld_blt {E : Value → Shared → Prop} {pins : List (Addr × Obj)} {s : Shared} {σ : St} {H : Hp} {x : Str} {u : Value} {pos : Pos} {Q : Value → Shared → Prop} (I : Inv X pins σ H s) (hg : Gl X x) (hm : X.mg x = none) (hv : bootBuiltins x = some u) (h : Q u s)
   (hn : x ≠ "__name__" := by decide) (hd : (x == ("__debug__" : Str)) = false := by decide) : wpAny (model X.prog X.w) X.A (eval (.Name x pos) X.env) Q E s := by
 obtain ⟨mb, h1, h2⟩ := I.mod.blt
 exact Calls.Name_function_global I.ok.kind hg (Calls.loadGlobal_builtin (by rw [I.ok.glob]; exact I.mod.glob.keeps I.bk) hm (by rw [I.ok.blt]; exact h1.keeps I.bk) ((h2 x hn).trans hv) h) hd
theorem pe_glob {x : Str} {v : V} {u : Value} {pos : Pos} (hg : Gl X x) (hm : X.mg x = some u) (r : RelV v u) (hd : (x == ("__debug__" : Str)) = false := by decide) : PE X (.Name x pos) (tC v) :=
 fun _ _ _ H _ I h => ld_glob I hg hm ⟨v, H, I, r, h⟩ hd
theorem pe_bltn {x : Str} {v : V} {u : Value} {pos : Pos} (hg : Gl X x) (hm : X.mg x = none) (hv : bootBuiltins x = some u) (r : RelV v u) (hn : x ≠ "__name__" := by decide) (hd : (x == ("__debug__" : Str)) = false := by decide) : PE X (.Name x pos) (tC v) :=
 fun _ _ _ H _ I h => ld_blt I hg hm hv ⟨v, H, I, r, h⟩ hn hd
variable {a b : Expr} {ta tb : TE} {pos : Pos}
def tB (t : TE) : TT := fun σ H Q => t σ H fun x H1 => ∃ c, x = .bl c ∧ Q c H1
theorem pt_val {e : Expr} {t : TE} (h : PE X e t) (he : ∀ whole, isTrue e X.env whole = (do let v ← whole; standAt e.pos; holding [v] (truthy v)) := by intro _; rfl) : PT X e (tB t) := by
 intro pins s σ H Q I hw
 refine isTrue_plain (thn (h pins s σ H _ I hw) fun v s1 ⟨x, H1, I1, r1, q1⟩ => ?_) (he _)
 obtain ⟨d, rfl, q⟩ := q1
 cases r1
 exact wpAny_truthy_bool ⟨H1, I1, q⟩
variable {tA tB' : TT} {rest : List Expr}
def tAnd (t u : TT) : TT := fun σ H Q => t σ H fun c H1 => if c = true then u σ H1 Q else Q false H1
def tOr (t u : TT) : TT := fun σ H Q => t σ H fun c H1 => if c = true then Q true H1 else u σ H1 Q
def tNot (t : TT) : TT := fun σ H Q => t σ H fun c H1 => Q (!c) H1
theorem pw_and1 (ha : PT X a tA) : PW X (.BoolOp .And [a] pos) tA := by
 intro wh pins s σ H Q I h
 refine isTrue_and (thn (ha pins s σ H Q I h) fun c s1 e => ?_)
 cases c with
 | true => exact isTrue_and_nil e
 | false => exact e
theorem pw_or1 (ha : PT X a tA) : PW X (.BoolOp .Or [a] pos) tA := by
 intro wh pins s σ H Q I h
 refine isTrue_or (thn (ha pins s σ H Q I h) fun c s1 e => ?_)
 cases c with
 | false => exact isTrue_or_nil e
 | true => exact e
theorem pw_and (ha : PT X a tA) (hb : PW X (.BoolOp .And (b :: rest) pos) tB') : PW X (.BoolOp .And (a :: b :: rest) pos) (tAnd tA tB') := by
 intro wh pins s σ H Q I h
 refine isTrue_and (thn (ha pins s σ H _ I h) fun c s1 ⟨H1, I1, q1⟩ => ?_)
 cases c with
 | true => exact hb wh pins s1 σ H1 Q I1 q1
 | false => exact ⟨H1, I1, q1⟩
theorem pw_or (ha : PT X a tA) (hb : PW X (.BoolOp .Or (b :: rest) pos) tB') : PW X (.BoolOp .Or (a :: b :: rest) pos) (tOr tA tB') := by
 intro wh pins s σ H Q I h
 refine isTrue_or (thn (ha pins s σ H _ I h) fun c s1 ⟨H1, I1, q1⟩ => ?_)
 cases c with
 | true => exact ⟨H1, I1, q1⟩
 | false => exact hb wh pins s1 σ H1 Q I1 q1
theorem pt_not (ha : PT X a tA) : PT X (.UnaryOp .Not a pos) (tNot tA) := by
 intro pins s σ H Q I h
 exact isTrue_not (ha pins s σ H (fun c H1 => Q (!c) H1) I h)
def tAndV (ta tb : TE) : TE := fun σ H Q => ta σ H fun x H1 => ∃ c, x = .bl c ∧ if c = true then tb σ H1 Q else Q (.bl false) H1
def tOrV (ta tb : TE) : TE := fun σ H Q => ta σ H fun x H1 => ∃ c, x = .bl c ∧ if c = true then Q (.bl true) H1 else tb σ H1 Q
def tNotV (ta : TE) : TE := fun σ H Q => ta σ H fun x H1 => ∃ c, x = .bl c ∧ Q (.bl (!c)) H1
theorem pe_one {op} {t : TE} (h : PE X a t) : PE X (.BoolOp op [a] pos) t := fun pins s σ H Q I hw => BoolOp_one (h pins s σ H Q I hw)
theorem pe_and (ha : PE X a ta) (hb : PE X (.BoolOp .And (b :: rest) pos) tb) : PE X (.BoolOp .And (a :: b :: rest) pos) (tAndV ta tb) := by
 intro pins s σ H Q I h
 refine BoolOp_and (thn (ha pins s σ H _ I h) fun v s1 ⟨x, H1, I1, r1, q1⟩ => ?_)
 obtain ⟨c, rfl, q1⟩ := q1
 cases r1
 refine wpAny_truthy_bool ?_
 cases c with
 | true => exact hb pins s1 σ H1 Q I1 q1
 | false => exact ⟨.bl false, H1, I1, rfl, q1⟩
theorem pe_or (ha : PE X a ta) (hb : PE X (.BoolOp .Or (b :: rest) pos) tb) : PE X (.BoolOp .Or (a :: b :: rest) pos) (tOrV ta tb) := by
 intro pins s σ H Q I h
 refine BoolOp_or (thn (ha pins s σ H _ I h) fun v s1 ⟨x, H1, I1, r1, q1⟩ => ?_)
 obtain ⟨c, rfl, q1⟩ := q1
 cases r1
 refine wpAny_truthy_bool ?_
 cases c with
 | false => exact hb pins s1 σ H1 Q I1 q1
 | true => exact ⟨.bl true, H1, I1, rfl, q1⟩
theorem pe_not (ha : PE X a ta) : PE X (.UnaryOp .Not a pos) (tNotV ta) := by
 intro pins s σ H Q I h
 refine UnaryOp_ (thn (ha pins s σ H _ I h) fun v s1 ⟨x, H1, I1, r1, q1⟩ => ?_)
 obtain ⟨c, rfl, q1⟩ := q1
 cases r1
 exact not_of (wpAny_truthy_bool ⟨.bl (!c), H1, I1, rfl, q1⟩)
def tIf (t : TT) (ta tb : TE) : TE := fun σ H Q => t σ H fun c H1 => if c = true then ta σ H1 Q else tb σ H1 Q
theorem pe_ifExp {c : Expr} (hc : PT X c tA) (ha : PE X a ta) (hb : PE X b tb) : PE X (.IfExp c a b pos) (tIf tA ta tb) := by
 intro pins s σ H Q I h
 refine wpAny_IfExp (thn (hc pins s σ H _ I h) fun d s1 ⟨H1, I1, q1⟩ => ?_)
 cases d with
 | true => exact ha pins s1 σ H1 Q I1 q1
 | false => exact hb pins s1 σ H1 Q I1 q1
end
end L2

namespace L2
open PySem PySem.Spec PyProof.Rows
def SqL (K : PySem.W.Frag) (H : Hp) (a : Addr) (xs : List V) : Prop :=
 Rd H a (.lst xs) ∨
   ∃ (o : Obj) (its : Array Value) (n : Nat), K.lookup a = some o ∧ o.cls = .type "list" ∧ o.dict = none ∧ o.data = .seq its n ∧ its.size ≤ sizeLine ∧ Vals xs its.toList
def SqT (K : PySem.W.Frag) (H : Hp) (a : Addr) (xs : List V) : Prop :=
 Rd H a (.tup xs) ∨
   ∃ (o : Obj) (its : Array Value) (n : Nat), K.lookup a = some o ∧ o.cls = .type "tuple" ∧ o.data = .seq its n ∧ its.size ≤ sizeLine ∧ Vals xs its.toList
def absV : Value → Option V
 | .none => some .non
 | .bool b => some (.bl b)
 | .int i _ => some (.int i)
 | .str x _ => some (.str x)
 | .bytes b _ => some (.byt b)
 | .float b _ => some (.flt b)
 | .ref a => some (.ref a)
 | .type n => some (.ty n)
 | _ => none
theorem RelV.abs {x : V} {u : Value} (r : RelV x u) : absV u = some x := by
 cases x with
 | non => cases r; rfl
 | bl _ => cases r; rfl
 | int _ => obtain ⟨t, rfl⟩ := r; rfl
 | str _ => obtain ⟨t, rfl⟩ := r; rfl
 | byt _ => obtain ⟨t, rfl⟩ := r; rfl
 | flt _ => obtain ⟨t, rfl⟩ := r; rfl
 | ref _ => cases r; rfl
 | ty _ => cases r; rfl
theorem RelV.inj {x y : V} {u : Value} (r : RelV x u) (q : RelV y u) : x = y := Option.some.inj (r.abs.symm.trans q.abs)
theorem Vals.inj : ∀ {xs ys : List V} {us : List Value}, Vals xs us → Vals ys us → xs = ys
 | _, _, _, .nil, .nil => rfl
 | _, _, _, .cons r t, .cons r' t' => by rw [r.inj r', Vals.inj t t']
section
variable {X : Cx} {pins : List (Addr × Obj)} {σ : St} {H : Hp} {s : Shared} {a : Addr} {xs ys : List V}
theorem SqL.of {K : PySem.W.Frag} (h : H a = some (.lst xs)) : SqL K H a xs := .inl (.inl h)
theorem SqT.of {K : PySem.W.Frag} (h : H a = some (.tup xs)) : SqT K H a xs := .inl (.inl h)
theorem Inv.list (I : Inv X pins σ H s) (h : SqL X.K H a xs) : ∃ its : List Value, Vals xs its ∧ PlainL s.heap a its.toArray ∧ xs.length ≤ sizeLine := by
 rcases h with h | ⟨o, its, n, hk, hc, hd, hs, hz, r⟩
 · obtain ⟨z, its, n, r, e⟩ := h.ok I.hok
   exact ⟨its, r, ⟨_, n, e, rfl, rfl, rfl⟩, z⟩
 · refine ⟨its.toList, r, ⟨o, n, I.kIn a o hk, hc, hd, by simpa using hs⟩, ?_⟩
   have e := r.length
   simp only [Array.length_toList] at e
   omega
theorem Inv.tuple (I : Inv X pins σ H s) (h : SqT X.K H a xs) : ∃ its : List Value, Vals xs its ∧ IsTup s.heap a its.toArray ∧ xs.length ≤ sizeLine := by
 rcases h with h | ⟨o, its, n, hk, hc, hs, hz, r⟩
 · obtain ⟨z, its, r, p⟩ := h.ok I.hok
   exact ⟨its, r, p, z⟩
 · refine ⟨its.toList, r, ⟨o, I.kIn a o hk, hc, n, by simpa using hs⟩, ?_⟩
   have e := r.length
   simp only [Array.length_toList] at e
   omega
theorem Inv.list_inj (I : Inv X pins σ H s) (h : SqL X.K H a xs) (h' : SqL X.K H a ys) : xs = ys := by
 obtain ⟨its, r, ⟨o, n, e, _, _, d⟩, _⟩ := I.list h
 obtain ⟨its', r', ⟨o', n', e', _, _, d'⟩, _⟩ := I.list h'
 rw [e] at e'; cases e'
 rw [d] at d'
 injection d' with d1 _
 have : its = its' := by simpa using congrArg Array.toList d1
 subst this
 exact r.inj r'
theorem Inv.tuple_inj (I : Inv X pins σ H s) (h : SqT X.K H a xs) (h' : SqT X.K H a ys) : xs = ys := by
 obtain ⟨its, r, ⟨o, e, _, n, d⟩, _⟩ := I.tuple h
 obtain ⟨its', r', ⟨o', e', _, n', d'⟩, _⟩ := I.tuple h'
 rw [e] at e'; cases e'
 rw [d] at d'
 injection d' with d1 _
 have : its = its' := by simpa using congrArg Array.toList d1
 subst this
 exact r.inj r'
end
abbrev Cx.wish (X : Cx) (E : Value → Shared → Prop) : Cx := { X with xe := E }
abbrev Cx.nox (X : Cx) : Cx := X.wish fun _ _ => False
theorem Cx.Ok.wish {X : Cx} (ok : X.Ok) (E : Value → Shared → Prop) : (X.wish E).Ok :=
 ⟨ok.mod, ok.kind, ok.glob, ok.blt, ok.above, ok.inj, ok.has, ok.cab, ok.hd, ok.frames, ok.stk, ok.exf, ok.bs, ok.bsz, ok.noex, ok.exfs, ok.funs, ok.frf⟩
theorem Cx.Ok.unwish {X : Cx} {E : Value → Shared → Prop} (ok : (X.wish E).Ok) : X.Ok :=
 ⟨ok.mod, ok.kind, ok.glob, ok.blt, ok.above, ok.inj, ok.has, ok.cab, ok.hd, ok.frames, ok.stk, ok.exf, ok.bs, ok.bsz, ok.noex, ok.exfs, ok.funs, ok.frf⟩
section
variable {X : Cx} {pins : List (Addr × Obj)} {σ : St} {H : Hp} {s : Shared} {E : Value → Shared → Prop}
theorem Inv.wish (I : Inv X pins σ H s) (E : Value → Shared → Prop) : Inv (X.wish E) pins σ H s := ⟨I.ok.wish E, I.os, I.bare, I.base, I.loc, I.cell, I.free, I.freeC, I.pin, I.hok, I.len⟩
theorem Inv.unwish (I : Inv (X.wish E) pins σ H s) : Inv X pins σ H s := ⟨I.ok.unwish, I.os, I.bare, I.base, I.loc, I.cell, I.free, I.freeC, I.pin, I.hok, I.len⟩
theorem SP.unwish {D : Ends} {f : Flow} {s' : Shared} (h : SP (X.wish E) pins D f s') : SP X pins D f s' := by
 cases f with
 | next => obtain ⟨σ', H', I, q⟩ := h; exact ⟨σ', H', I.unwish, q⟩
 | brk => obtain ⟨σ', H', I, q⟩ := h; exact ⟨σ', H', I.unwish, q⟩
 | cont => obtain ⟨σ', H', I, q⟩ := h; exact ⟨σ', H', I.unwish, q⟩
 | ret u => obtain ⟨v, σ', H', I, r, q⟩ := h; exact ⟨v, σ', H', I.unwish, r, q⟩
theorem PE.nox {e : Expr} {t : TE} (h : PE X.nox e t) : PE X e t := fun pins s σ H Q I hw =>
 wpAny_mono (h pins s σ H Q (I.wish _) hw) (fun _ _ ⟨v, H', I', r, q⟩ => ⟨v, H', I'.unwish, r, q⟩) fun _ _ z => False.elim z
theorem PT.nox {e : Expr} {t : TT} (h : PT X.nox e t) : PT X e t := fun pins s σ H Q I hw =>
 wpAny_mono (h pins s σ H Q (I.wish _) hw) (fun _ _ ⟨H', I', q⟩ => ⟨H', I'.unwish, q⟩) fun _ _ z => False.elim z
theorem PSs.nox {st : List Stmt} {t : TS} (h : PSs X.nox st t) : PSs X st t := fun pins s σ H D I hw =>
 wpAny_mono (h pins s σ H D (I.wish _) hw) (fun _ _ q => q.unwish) fun _ _ z => False.elim z
end
section
variable {X : Cx} {st : Stmt} {rest : List Stmt} {t u : TS} {e : Expr} {te : TE} {pos : Pos}
def tNext : TS := fun D σ H => D.nx σ H
def tSeq (t u : TS) : TS := fun D σ H => t { D with nx := u D } σ H
theorem pss_nil : PSs X [] tNext := fun _ _ σ H _ I h => wpAny_execs_nil ⟨σ, H, I, h⟩
theorem pss_cons (h1 : PS X st t) (h2 : PSs X rest u) : PSs X (st :: rest) (tSeq t u) := by
 intro pins s σ H D I h
 refine wpAny_execs_cons (thn (h1 pins s σ H { D with nx := u D } I h) fun f s1 q => ?_)
 cases f with
 | next =>
   obtain ⟨σ', H', I', q⟩ := q
   exact h2 pins s1 σ' H' D I' q
 | ret v => exact q
 | brk => exact q
 | cont => exact q
theorem pss_one (h1 : PS X st t) : PSs X [st] t := by
 intro pins s σ H D I h
 refine wpAny_execs_cons (thn (h1 pins s σ H D I h) fun f s1 q => ?_)
 cases f with
 | next => exact wpAny_execs_nil q
 | ret v => exact q
 | brk => exact q
 | cont => exact q
theorem Inv.quiet {pins : List (Addr × Obj)} {σ : St} {H : Hp} {s : Shared} (I : Inv X pins σ H s) : interactive X.env = false := by simp [interactive, I.ok.kind]
def tDrop (te : TE) : TS := fun D σ H => te σ H fun _ H1 => D.nx σ H1
theorem ps_expr (he : PE X e te) (hs : swapsWith e none pos.line X.env = pure false := by rfl) : PS X (.Expr e pos) (tDrop te) := by
 intro pins s σ H D I h
 exact wpAny_Expr_any (thn (he pins s σ H _ I h) fun v s1 ⟨x, H1, I1, r1, q1⟩ => ⟨σ, H1, I1, q1⟩) I.quiet hs
def tRet (te : TE) : TS := fun D σ H => te σ H D.rt
theorem ps_ret (he : PE X e te) : PS X (.Return (some e) pos) (tRet te) := by
 intro pins s σ H D I h
 exact wpAny_Return_some (thn (he pins s σ H _ I h) fun v s1 ⟨x, H1, I1, r1, q1⟩ => ⟨x, σ, H1, I1, r1, q1⟩)
def tIfS (c : TT) (t u : TS) : TS := fun D σ H => c σ H fun b H1 => if b = true then t D σ H1 else u D σ H1
theorem ps_if {c : Expr} {a b : List Stmt} {tc : TT} (hc : PT X c tc) (ha : PSs X a t) (hb : PSs X b u) : PS X (.If c a b pos) (tIfS tc t u) := by
 intro pins s σ H D I h
 refine wpAny_If (thn (hc pins s σ H _ I h) fun d s1 ⟨H1, I1, q1⟩ => ?_)
 cases d with
 | true => exact ha pins s1 σ H1 D I1 q1
 | false => exact hb pins s1 σ H1 D I1 q1
def tNever : TS := fun _ _ _ => False
theorem ps_never : PS X st tNever := fun _ _ _ _ _ _ h => h.elim
end
abbrev TG := V → St → Hp → (St → Hp → Prop) → Prop
abbrev TGs := List V → St → Hp → (St → Hp → Prop) → Prop
def PG (X : Cx) (target : Expr) (t : TG) : Prop :=
 ∀ (pins : List (Addr × Obj)) (s : Shared) (σ : St) (H : Hp) (v : V) (u : Value) (Q : St → Hp → Prop), Inv X pins σ H s → RelV v u → t v σ H Q →
   wpAny (model X.prog X.w) X.A (assign target X.env u) (fun _ s' => ∃ σ' H', Inv X pins σ' H' s' ∧ Q σ' H') X.xe s
def PGs (X : Cx) (ts : List Expr) (t : TGs) : Prop :=
 ∀ (pins : List (Addr × Obj)) (s : Shared) (σ : St) (H : Hp) (vs : List V) (us : List Value) (Q : St → Hp → Prop), Inv X pins σ H s → Vals vs us → t vs σ H Q →
   wpAny (model X.prog X.w) X.A (assignInOrder ((assignEach ts X.env).map (·.2)) us) (fun _ s' => ∃ σ' H', Inv X pins σ' H' s' ∧ Q σ' H') X.xe s
abbrev TSet := V → V → V → Hp → (Hp → Prop) → Prop
def PSet (X : Cx) (t : TSet) : Prop :=
 ∀ (pins : List (Addr × Obj)) (s : Shared) (σ : St) (H : Hp) (o i v : V) (ov iv u : Value) (Q : Hp → Prop), Inv X pins σ H s → RelV o ov → RelV i iv → RelV v u → t o i v H Q →
   wpAny (model X.prog X.w) X.A (setItem ov iv u) (fun _ s' => ∃ H', Inv X pins σ H' s' ∧ Q H') X.xe s
section
variable {X : Cx} {pos : Pos}
def gName (i : Nat) : TG := fun v σ H Q => Q (σ.set i (some v)) H
theorem pg_name {i : Nat} {x : Str} (hN : X.N.Nodup) (hi : X.N[i]? = some x) (hx : Loc X.env.scope x) (hf : X.fn x = true ∨ X.env.scope.names.lookup x = some .local := by first | exact .inl rfl | exact .inr rfl | assumption) : PG X (.Name x pos) (gName i) := by
 intro pins s σ H v u Q I r h
 exact wpAny_assign_Name (store_ok I hN hi hx r (fun s' I' => ⟨_, H, I', h⟩) hf)
def gNil : TGs := fun vs σ H Q => vs = [] ∧ Q σ H
def gCons (t : TG) (u : TGs) : TGs := fun vs σ H Q => ∃ v r, vs = v :: r ∧ t v σ H fun σ' H' => u r σ' H' Q
theorem pgs_nil : PGs X [] gNil := by
 intro pins s σ H vs us Q I r h
 obtain ⟨e, h⟩ := h
 subst e
 cases r
 exact assignInOrder_nil ⟨σ, H, I, h⟩
theorem pgs_cons {e : Expr} {es : List Expr} {t : TG} {u : TGs} (h1 : PG X e t) (h2 : PGs X es u)
   (hs : (assignEach (e :: es) X.env).map (·.2) = assign e X.env :: (assignEach es X.env).map (·.2) := by rfl) : PGs X (e :: es) (gCons t u) := by
 intro pins s σ H vs us Q I r h
 obtain ⟨v, vr, e1, h⟩ := h
 subst e1
 cases r with
 | cons r rr =>
   rw [hs]
   refine assignInOrder_cons (thn (h1 pins s σ H _ _ _ I r h) fun _ s1 ⟨σ1, H1, I1, q1⟩ => ?_)
   exact h2 pins s1 σ1 H1 _ _ Q I1 rr q1
def gTup (K : PySem.W.Frag) (n : Nat) (t : TGs) : TG := fun v σ H Q => ∃ a xs, v = .ref a ∧ SqT K H a xs ∧ xs.length = n ∧ t xs σ H Q
theorem pg_tup {es : List Expr} {k : Nat} {t : TGs} {n : Nat} (hc : X.calm = true) (h : PGs X es t)
   (hn : (assignEach es X.env).length = n := by rfl) (hst : (assignEach es X.env).findIdx? (·.1) = none := by rfl) : PG X (.Tuple es k pos) (gTup X.K n t) := by
 intro pins s σ H v u Q I r hw
 obtain ⟨a, xs, e1, hq, hl, hw⟩ := hw
 subst e1
 cases r
 obtain ⟨its, rv, ht, hz⟩ := I.tuple hq
 refine assign_Tuple_tuple (I.ok.hd hc) ht (by simp [hn, ← hl, rv.length]) hst fun h' hx => ?_
 have I1 : Inv X pins σ H { s with heap := h' } := I.kept (t' := s.toks) fun b o e => hx b o (Nat.ne_of_lt (Heap.lt_size e)) e
 exact h pins _ σ H xs _ Q I1 (by simpa using rv) hw
def gSub (to ti : TE) (t : TSet) : TG := fun v σ H Q => to σ H fun o H1 => ti σ H1 fun i H2 => t o i v H2 fun H3 => Q σ H3
theorem pg_sub {o i : Expr} {to ti : TE} {t : TSet} (ho : PE X o to) (hi : PE X i ti) (hs : PSet X t)
   (ha : ∀ v, assign (.Subscript o i pos) X.env v = (do
     let ov ← holding [v] (eval o X.env)
     let iv ← holding [v, ov] (eval i X.env)
     standAt pos
     holding [v, ov, iv] (setItem ov iv v)
     release [v, ov, iv] []) := by intro _; rfl) : PG X (.Subscript o i pos) (gSub to ti t) := by
 intro pins s σ H v u Q I r h
 rw [ha]
 refine wpAny_bind (wpAny_holding (thn (ho pins s σ H _ I h) fun ov s1 ⟨x, H1, I1, r1, q1⟩ => ?_))
 refine wpAny_bind (wpAny_holding (thn (hi pins s1 σ H1 _ I1 q1) fun iv s2 ⟨y, H2, I2, r2, q2⟩ => ?_))
 refine wpAny_bind (wpAny_standAt (wpAny_bind (wpAny_holding (thn (hs pins s2 σ H2 x y v ov iv u _ I2 r1 r2 r q2) fun _ s3 ⟨H3, I3, q3⟩ => ?_))))
 exact wpAny_release ⟨σ, H3, I3, q3⟩
def tAsg (te : TE) (g : TG) : TS := fun D σ H => te σ H fun x H1 => g x σ H1 D.nx
theorem ps_asg {tg e : Expr} {te : TE} {g : TG} (he : PE X e te) (hg : PG X tg g) (hs : swapsWithSole [tg] e pos.line X.env = pure false := by rfl) (hw : swappedStores [tg] e X.env = pure none := by rfl)
   (h1 : (assignEach [tg] X.env).map (·.2) = [assign tg X.env] := by rfl) : PS X (.Assign [tg] e pos) (tAsg te g) := by
 intro pins s σ H D I h
 refine wpAny_Assign_stores (thn (he pins s σ H _ I h) fun v s1 ⟨x, H1, I1, r1, q1⟩ => ?_) hs hw
 rw [h1]
 exact thn (hg pins s1 σ H1 x v _ I1 r1 q1) fun _ s2 q => q
theorem ps_set {i : Nat} {x : Str} {e : Expr} {te : TE} {pos' : Pos} (hN : X.N.Nodup) (hi : X.N[i]? = some x) (hx : Loc X.env.scope x) (he : PE X e te) (hs : swapsWith e (some (.Name x pos')) pos.line X.env = pure false := by rfl) (hf : X.fn x = true ∨ X.env.scope.names.lookup x = some .local := by first | exact .inl rfl | exact .inr rfl | assumption) :
   PS X (.Assign [.Name x pos'] e pos) (tAsg te (gName i)) := by
 intro pins s σ H D I h
 refine wpAny_Assign_Name (thn (he pins s σ H _ I h) fun v s1 ⟨y, H1, I1, r1, q1⟩ => ?_) hs
 exact store_ok I1 hN hi hx r1 (fun s2 I2 => ⟨_, H1, I2, q1⟩) hf
end
section
variable {X : Cx} {pos : Pos}
end
structure It where
 go : Nat → Hp → Prop
 yld : Nat → Hp → V → Hp → Prop
 stop : Nat → Hp → Prop
def FpOk (X : Cx) (pins : List (Addr × Obj)) (H : Hp) (b : Addr) : Prop :=
 H b = none ∧ b ≠ X.env.locals ∧ b ∉ X.fs ∧ (b ∈ X.ex ∨ X.s₀.heap.objs.size ≤ b) ∧ (∀ x c, X.env.cells.lookup x = some c → c ≠ b) ∧ ∀ p ∈ X.pn ++ pins, p.1 ≠ b
theorem Inv.fpOk {X : Cx} {pins : List (Addr × Obj)} {σ : St} {H H' : Hp} {s : Shared} {b : Addr} (I : Inv X pins σ H s) (hb : s.heap.objs.size ≤ b) (hn : H' b = none) : FpOk X pins H' b := by
 refine ⟨hn, Nat.ne_of_gt (Nat.lt_of_lt_of_le I.lt hb), I.nofs hb, .inr (Nat.le_trans I.sz hb), fun x c e z => ?_, fun p hp z => ?_⟩
 · obtain ⟨v, q⟩ := I.cell x c e
   exact absurd (Nat.lt_of_lt_of_le q.lt (by rw [z]; exact hb)) (Nat.lt_irrefl _)
 · exact absurd (Nat.lt_of_lt_of_le (Heap.lt_size (I.pin p hp).1) (by rw [z]; exact hb)) (Nat.lt_irrefl _)
structure Turn (P : Program) (w : World) (K : PySem.W.Frag) (tg : Expr) (J : It) (fp : List Addr) (it : Addr) (tn : Nat → Heap → Prop) : Prop where
 mem : it ∈ fp
 obj : ∀ i h, tn i h → ∀ b ∈ fp, ∃ o, h.get? b = some o ∧ ∀ v, o.data ≠ .cell v
 keep : ∀ i h h', tn i h → (∀ b ∈ fp, ∀ o, h.get? b = some o → h'.get? b = some o) → tn i h'
 item : ∀ (X : Cx), X.prog = P → X.w = w → X.K = K → X.calm = true → ∀ (i : Nat) (pins : List (Addr × Obj)) (s : Shared) (σ : St) (H : Hp) (E : Value → Shared → Prop), Inv X pins σ H s → (∀ b ∈ fp, FpOk X pins H b) → tn i s.heap → J.go i H →
   wpAny (model P w) X.A (pyNext (.ref it)) (fun r s1 => ∃ u, r = some u ∧
     wpAny (model P w) X.A (letOwnedTupleGo tg (.ref it) u) (fun _ s2 => ∃ x H', Inv X pins σ H' s2 ∧ RelV x u ∧ J.yld i H x H' ∧ tn (i + 1) s2.heap ∧ ∀ b ∈ fp, H' b = none) E s1) E s
 done : ∀ (X : Cx), X.prog = P → X.w = w → X.K = K → X.calm = true → ∀ (i : Nat) (pins : List (Addr × Obj)) (s : Shared) (σ : St) (H : Hp) (E : Value → Shared → Prop), Inv X pins σ H s → (∀ b ∈ fp, FpOk X pins H b) → tn i s.heap → J.stop i H →
   wpAny (model P w) X.A (pyNext (.ref it)) (fun r s1 => r = none ∧ Inv X pins σ H s1) E s
 self : ∀ (A : Around) (i : Nat) (s : Shared) (Q : Value → Shared → Prop) (E : Value → Shared → Prop), tn i s.heap → Q (.ref it) s → wpAny (model P w) A (pyIter (.ref it)) Q E s
abbrev TI := St → Hp → (It → Hp → Prop) → Prop
def PIE (X : Cx) (pins : List (Addr × Obj)) (σ : St) (tg : Expr) (R : It → Hp → Prop) (itv : Value) (s2 : Shared) : Prop :=
 ∃ (it : Addr) (fp : List Addr) (tn : Nat → Heap → Prop) (J : It) (H' : Hp), itv = .ref it ∧ Inv X pins σ H' s2 ∧ Turn X.prog X.w X.K tg J fp it tn ∧ tn 0 s2.heap ∧ (∀ b ∈ fp, FpOk X pins H' b) ∧ R J H'
def PI (X : Cx) (tg iter : Expr) (wi : TI) : Prop :=
 ∀ (pins : List (Addr × Obj)) (s : Shared) (σ : St) (H : Hp) (R : It → Hp → Prop), Inv X pins σ H s → wi σ H R →
   wpAny (model X.prog X.w) X.A (eval iter X.env) (fun v s1 => wpAny (model X.prog X.w) X.A (pyIter v) (PIE X pins σ tg R) X.xe s1) X.xe s
theorem go_of {M : Model} {A : Around} {E : Value → Shared → Prop} {s : Shared} {tg : Expr} {it : Addr} {u : Value} {o : Obj} {n : String} {vs : Array Value} {Q : Unit → Shared → Prop} (ho : s.heap.get? it = some o) (hc : o.cls = .type n) (hd : o.data = .fields vs)
   (hn : ["enumerate", "zip", "dict_itemiterator", "dict_reverseitemiterator", "odict_iterator", "itertools.zip_longest", "itertools.pairwise"].contains n = false) (hQ : Q () s) : wpAny M A (letOwnedTupleGo tg (.ref it) u) Q E s := by
 unfold letOwnedTupleGo
 cases tg <;> first
   | exact wpAny_pure hQ
   | (cases u <;> first
       | exact wpAny_pure hQ
       | (refine wpAny_bind (wpAny_load ho ?_)
          rw [hc, hd]
          show wpAny M A (if (["enumerate", "zip", "dict_itemiterator", "dict_reverseitemiterator", "odict_iterator", "itertools.zip_longest", "itertools.pairwise"].contains n && vs[0]? == some (rawInt _)) = true then _ else _) Q E s
          rw [if_neg (by intro h; rw [hn, Bool.false_and] at h; cases h)]
          exact wpAny_pure hQ))
def Itl (K : PySem.W.Frag) (a : Addr) : It :=
 ⟨fun i H => ∃ xs x, SqL K H a xs ∧ xs[i]? = some x, fun i H x H' => H' = H ∧ ∀ xs, SqL K H a xs → xs[i]? = some x, fun i H => ∃ xs, SqL K H a xs ∧ xs.length ≤ i⟩
def Itt (K : PySem.W.Frag) (a : Addr) : It :=
 ⟨fun i H => ∃ xs x, SqT K H a xs ∧ xs[i]? = some x, fun i H x H' => H' = H ∧ ∀ xs, SqT K H a xs → xs[i]? = some x, fun i H => ∃ xs, SqT K H a xs ∧ xs.length ≤ i⟩
def Itr (lo : Int) (n : Nat) : It := ⟨fun i _ => i < n, fun i H x H' => H' = H ∧ x = .int (lo + i), fun i _ => n ≤ i⟩
theorem turn_list {P : Program} {w : World} {K : PySem.W.Frag} {tg : Expr} (a it : Addr) : Turn P w K tg (Itl K a) [it] it (fun i h => h.IsListIter it a i) where
 mem := by simp
 obj := fun i h st b hb => by
   have e : b = it := by simpa using hb
   subst e
   obtain ⟨o, e, c, d⟩ := st
   exact ⟨o, e, fun v z => by rw [d] at z; cases z⟩
 keep := fun i h h' st k => st.at fun o e => k it (by simp) o e
 item := by
   intro X hP hw hK hc i pins s σ H E I hf st hg
   subst hP hw hK
   obtain ⟨xs, x, hq, hx⟩ := hg
   obtain ⟨its, rv, p, hz⟩ := I.list hq
   obtain ⟨u, hu, ru⟩ := rv.get hx
   obtain ⟨f0, f1, f2, f3, f4, f5⟩ := hf it (by simp)
   refine wpAny_pyNext_list_item st p.isList (x := u) (by simpa using hu) fun h' st' sb => ?_
   have I1 : Inv X pins σ H { s with heap := h' } := I.turned (t' := s.toks) (fun b o hb e => (sb.2 b hb).trans e) f0 f1 f3 f4 f5
   obtain ⟨o, e, c, d⟩ := id st'
   exact ⟨u, rfl, go_of (s := { s with heap := h' }) e c d (by decide) ⟨x, H, I1, ru, ⟨rfl, fun ys hy => by rw [I.list_inj hy hq]; exact hx⟩, st', fun b hb => (hf b hb).1⟩⟩
 done := by
   intro X hP hw hK hc i pins s σ H E I hf st hg
   subst hP hw hK
   obtain ⟨xs, hq, hx⟩ := hg
   obtain ⟨its, rv, p, hz⟩ := I.list hq
   obtain ⟨f0, f1, f2, f3, f4, f5⟩ := hf it (by simp)
   have hl := rv.length
   exact wpAny_pyNext_list_end (I.ok.hd hc) st p.isList (by simp; omega) fun h' eb => ⟨rfl, I.turned (t' := s.toks) (fun b o hb e => eb b o hb e) f0 f1 f3 f4 f5⟩
 self := fun _ _ _ _ _ st h => wpAny_pyIter_listiter st h
theorem turn_tuple {P : Program} {w : World} {K : PySem.W.Frag} {tg : Expr} (a it : Addr) : Turn P w K tg (Itt K a) [it] it (fun i h => h.IsTupleIter it a i) where
 mem := by simp
 obj := fun i h st b hb => by
   have e : b = it := by simpa using hb
   subst e
   obtain ⟨o, e, c, d⟩ := st
   exact ⟨o, e, fun v z => by rw [d] at z; cases z⟩
 keep := fun i h h' st k => st.at fun o e => k it (by simp) o e
 item := by
   intro X hP hw hK hc i pins s σ H E I hf st hg
   subst hP hw hK
   obtain ⟨xs, x, hq, hx⟩ := hg
   obtain ⟨its, rv, p, hz⟩ := I.tuple hq
   obtain ⟨u, hu, ru⟩ := rv.get hx
   obtain ⟨f0, f1, f2, f3, f4, f5⟩ := hf it (by simp)
   refine wpAny_pyNext_tuple_item st (show s.heap.IsTuple a its.toArray from p) (x := u) (by simpa using hu) fun h' st' sb => ?_
   have I1 : Inv X pins σ H { s with heap := h' } := I.turned (t' := s.toks) (fun b o hb e => (sb.2 b hb).trans e) f0 f1 f3 f4 f5
   obtain ⟨o, e, c, d⟩ := id st'
   exact ⟨u, rfl, go_of (s := { s with heap := h' }) e c d (by decide) ⟨x, H, I1, ru, ⟨rfl, fun ys hy => by rw [I.tuple_inj hy hq]; exact hx⟩, st', fun b hb => (hf b hb).1⟩⟩
 done := by
   intro X hP hw hK hc i pins s σ H E I hf st hg
   subst hP hw hK
   obtain ⟨xs, hq, hx⟩ := hg
   obtain ⟨its, rv, p, hz⟩ := I.tuple hq
   obtain ⟨f0, f1, f2, f3, f4, f5⟩ := hf it (by simp)
   have hl := rv.length
   exact wpAny_pyNext_tuple_end (I.ok.hd hc) st (show s.heap.IsTuple a its.toArray from p) (by simp; omega) fun h' eb => ⟨rfl, I.turned (t' := s.toks) (fun b o hb e => eb b o hb e) f0 f1 f3 f4 f5⟩
 self := fun _ _ _ _ _ st h => wpAny_pyIter_tupleiter st h
theorem turn_range {P : Program} {w : World} {K : PySem.W.Frag} {tg : Expr} (it : Addr) (lo : Int) (n : Nat) : Turn P w K tg (Itr lo n) [it] it (fun i h => IsRangeIter h it (lo + (i : Nat) * 1) ((n : Int) - (i : Nat)) 1) where
 mem := by simp
 obj := fun i h st b hb => by
   have e : b = it := by simpa using hb
   subst e
   exact ⟨_, st, fun v z => by
     have z' : Data.fields _ = Data.cell v := z
     cases z'⟩
 keep := fun i h h' st k => k it (by simp) _ st
 item := by
   intro X hP hw hK hc i pins s σ H E I hf st hg
   subst hP hw hK
   obtain ⟨f0, f1, f2, f3, f4, f5⟩ := hf it (by simp)
   have W := Walks.range (prog := X.prog) (w := X.w) (I.ok.hd hc) it lo 1 n
   refine W.item i s _ _ hg st fun v h' tk hv st' kk => ?_
   obtain ⟨t, rfl⟩ := hv
   have I1 : Inv X pins σ H { s with heap := h', toks := tk } := I.turned (fun b o hb e => kk b o (by simpa using hb) e) f0 f1 f3 f4 f5
   refine ⟨_, rfl, go_of (s := { s with heap := h', toks := tk }) (n := "range_iterator") st' rfl rfl (by decide) ⟨.int (lo + i), H, I1, ⟨t, ?_⟩, ⟨rfl, rfl⟩, st', fun b hb => (hf b hb).1⟩⟩
   rw [Int.mul_one]
 done := by
   intro X hP hw hK hc i pins s σ H E I hf st hg
   subst hP hw hK
   obtain ⟨f0, f1, f2, f3, f4, f5⟩ := hf it (by simp)
   exact wpAny_pyNext_range_end (I.ok.hd hc) st (by have : n ≤ i := hg; omega) fun h' eb => ⟨rfl, I.turned (t' := s.toks) (fun b o hb e => eb b o hb e) f0 f1 f3 f4 f5⟩
 self := fun _ _ _ _ _ st h => wpAny_pyIter_rangeiter st h
end L2

namespace L2
open PySem PySem.Spec PyProof.Rows
section
variable {X : Cx} {tg : Expr}
def iList (K : PySem.W.Frag) (tl : TE) : TI := fun σ H R => tl σ H fun x H1 => ∃ a, x = .ref a ∧ (∃ xs, SqL K H1 a xs) ∧ R (Itl K a) H1
def iTup (K : PySem.W.Frag) (tl : TE) : TI := fun σ H R => tl σ H fun x H1 => ∃ a, x = .ref a ∧ (∃ xs, SqT K H1 a xs) ∧ R (Itt K a) H1
theorem pi_list {l : Expr} {tl : TE} (hl : PE X l tl) : PI X tg l (iList X.K tl) := by
 intro pins s σ H R I h
 refine thn (hl pins s σ H _ I h) fun v s1 ⟨x, H1, I1, r1, q1⟩ => ?_
 obtain ⟨a, e, ⟨xs, hq⟩, q⟩ := q1
 subst e
 cases r1
 obtain ⟨its, rv, p, hz⟩ := I1.list hq
 refine wpAny_pyIter_list p.isList ?_
 refine ⟨s1.heap.objs.size, [s1.heap.objs.size], _, _, H1, rfl, I1.kept (t' := s1.toks) fun b o e => Heap.get?_push_of_some _ e, turn_list a _, ⟨_, Heap.get?_push_size _ rfl, rfl, rfl⟩, fun b hb => ?_, q⟩
 have e : b = s1.heap.objs.size := by simpa using hb
 subst e
 exact I1.fpOk (Nat.le_refl _) (I1.hok.fresh (Nat.le_refl _))
theorem pi_tup {l : Expr} {tl : TE} (hl : PE X l tl) : PI X tg l (iTup X.K tl) := by
 intro pins s σ H R I h
 refine thn (hl pins s σ H _ I h) fun v s1 ⟨x, H1, I1, r1, q1⟩ => ?_
 obtain ⟨a, e, ⟨xs, hq⟩, q⟩ := q1
 subst e
 cases r1
 obtain ⟨its, rv, p, hz⟩ := I1.tuple hq
 refine wpAny_pyIter_tuple (show s1.heap.IsTuple a its.toArray from p) ?_
 refine ⟨s1.heap.objs.size, [s1.heap.objs.size], _, _, H1, rfl, I1.kept (t' := s1.toks) fun b o e => Heap.get?_push_of_some _ e, turn_tuple a _, ⟨_, Heap.get?_push_size _ rfl, rfl, rfl⟩, fun b hb => ?_, q⟩
 have e : b = s1.heap.objs.size := by simpa using hb
 subst e
 exact I1.fpOk (Nat.le_refl _) (I1.hok.fresh (Nat.le_refl _))
theorem range_it {pins : List (Addr × Obj)} {σ : St} {H : Hp} {s : Shared} {R : It → Hp → Prop} {E : Value → Shared → Prop} {lo hi : Int} {t u v : Tok} {tk : Nat} (I : Inv X pins σ H s) (h1 : -(2 ^ 62) ≤ lo) (h2 : lo < 2 ^ 62) (h3 : -(2 ^ 62) ≤ hi) (h4 : hi < 2 ^ 62)
   (q : R (Itr lo (hi - lo).toNat) H) : wpAny (model X.prog X.w) X.A (pyIter (.ref s.heap.objs.size)) (PIE X pins σ tg R) E { s with heap := s.heap.push { cls := .type "range", data := .fields #[.int lo t, .int hi u, .int 1 v] }, toks := tk } := by
 refine wpAny_pyIter_range (IsRange.new ..) (small_one h1 h2 h3 h4) ?_
 have I1 : Inv X pins σ H { s with heap := s.heap.push { cls := .type "range", data := .fields #[.int lo t, .int hi u, .int 1 v] }, toks := tk } := I.kept fun b o e => Heap.get?_push_of_some _ e
 refine ⟨(s.heap.push { cls := .type "range", data := .fields #[.int lo t, .int hi u, .int 1 v] }).objs.size, [(s.heap.push { cls := .type "range", data := .fields #[.int lo t, .int hi u, .int 1 v] }).objs.size], _, _, H, rfl,
   I1.kept (t' := tk) fun b o e => Heap.get?_push_of_some _ e, turn_range _ lo (hi - lo).toNat, ?_, fun b hb => ?_, q⟩
 · have e1 : lo + ((0 : Nat) : Int) * 1 = lo := by simp
   have e2 : (((hi - lo).toNat : Nat) : Int) - ((0 : Nat) : Int) = Builtin.Range.rangeSize lo hi 1 := by rw [rangeSize_one]; split <;> omega
   show IsRangeIter _ _ (lo + ((0 : Nat) : Int) * 1) ((((hi - lo).toNat : Nat) : Int) - ((0 : Nat) : Int)) 1
   rw [e1, e2]
   exact Heap.get?_push_size _ rfl
 · have e : b = (s.heap.push { cls := .type "range", data := .fields #[.int lo t, .int hi u, .int 1 v] }).objs.size := by simpa using hb
   subst e
   exact I1.fpOk (Nat.le_refl _) (I1.hok.fresh (Nat.le_refl _))
def iRng1 (ta : TA) : TI := fun σ H R => ta σ H fun vs H1 => ∃ j : Int, vs = [.int j] ∧ -(2 ^ 62) ≤ j ∧ j < 2 ^ 62 ∧ R (Itr 0 j.toNat) H1
theorem pi_range1 {a : Expr} {ta : TA} {p pos : Pos} (hg : Gl X "range") (hm : X.mg "range" = none) (ha : PA X [a] ta) (hs : starEach [a] X.env = [(false, eval a X.env)] := by rfl) : PI X tg (.Call (.Name "range" p) [a] [] pos) (iRng1 ta) := by
 intro pins s σ H R I h
 refine Call_ (ld_blt I hg hm boot_range (PyProof.Rows.callWith_type1 (thn (ha pos pins s σ H _ I h) fun us s1 ⟨vs, H1, I1, r1, q1⟩ => ?_) hs rfl))
 obtain ⟨j, e, q1, q2, q⟩ := q1
 subst e
 cases r1 with
 | cons r rr =>
   cases rr
   obtain ⟨t, rfl⟩ := r
   exact call_range_1 (range_it I1 (by omega) (by omega) q1 q2 (by simpa using q))
def tFor (wi : TI) (g : TG) (tb : TS) : TS := fun D σ H => wi σ H fun J H1 => ∃ W : Nat → Nat → St → Hp → Prop, (∃ m, W 0 m σ H1) ∧ ∀ i m σ H, W i m σ H →
 (J.stop i H ∧ D.nx σ H) ∨ (J.go i H ∧ ∃ N : St → Hp → Prop, (∀ σ' H', N σ' H' → ∃ m', m' < m ∧ W (i + 1) m' σ' H') ∧ ∀ x H', J.yld i H x H' → g x σ H' fun σ2 H2 => tb { D with nx := N, ct := N, bk := D.nx } σ2 H2)
def pinsAt (fp : List Addr) (h : Heap) : List (Addr × Obj) := fp.filterMap fun b => (h.get? b).map fun o => (b, o)
theorem mem_pinsAt {fp : List Addr} {h : Heap} {b : Addr} {o : Obj} (hb : b ∈ fp) (e : h.get? b = some o) : (b, o) ∈ pinsAt fp h := List.mem_filterMap.mpr ⟨b, hb, by rw [e]; rfl⟩
theorem of_pinsAt {fp : List Addr} {h : Heap} {p : Addr × Obj} (hp : p ∈ pinsAt fp h) : p.1 ∈ fp ∧ h.get? p.1 = some p.2 := by
 obtain ⟨b, hb, e⟩ := List.mem_filterMap.mp hp
 cases q : h.get? b with
 | none => rw [q] at e; cases e
 | some o =>
   rw [q] at e
   have e' : (b, o) = p := Option.some.inj e
   subst e'
   exact ⟨hb, q⟩
theorem Inv.pinned {pins : List (Addr × Obj)} {σ : St} {H : Hp} {s : Shared} {fp : List Addr} (I : Inv X pins σ H s) (hf : ∀ b ∈ fp, FpOk X pins H b) (ho : ∀ b ∈ fp, ∃ o, s.heap.get? b = some o ∧ ∀ v, o.data ≠ .cell v) : Inv X (pins ++ pinsAt fp s.heap) σ H s :=
 I.pins_of fun p hp => (List.mem_append.mp hp).elim (fun z => I.pin p (List.mem_append_right _ z)) fun z => by
   obtain ⟨hb, e⟩ := of_pinsAt z
   obtain ⟨f0, f1, f2, _⟩ := hf p.1 hb
   obtain ⟨o, e', d⟩ := ho p.1 hb
   rw [e] at e'; cases e'
   exact ⟨e, f0, f1, f2, d⟩
theorem Inv.unpinned {pins pl : List (Addr × Obj)} {σ : St} {H : Hp} {s : Shared} (I : Inv X (pins ++ pl) σ H s) : Inv X pins σ H s := I.pins_of fun p hp => I.pin p (List.mem_append_right _ (List.mem_append_left _ hp))
theorem ps_for {iter : Expr} {body : List Stmt} {wi : TI} {g : TG} {tb : TS} {pos : Pos} (hp : PassesOwn (model X.prog X.w) X.A X.env X.xe) (hc : X.calm = true) (hi : PI X tg iter wi) (hg : PG X tg g) (hb : PSs X body tb)
   (hs : ∀ x, foldedSetIterable iter X.env x = pure x := by intro _; rfl) : PS X (.For tg iter body [] pos) (tFor wi g tb) := by
 intro pins s σ H D I h
 refine wpAny_For (thn (hi pins s σ H _ I h) fun v s1 h1 => thn h1 fun itv s2 h2 => ?_) hs
 obtain ⟨it, fp, tn, J, H2, e, I2, T, st2, f2, W, ⟨m0, w0⟩, turn⟩ := h2
 subst e
 -- what stays true of the iterator's objects through the loop
 have stat : ∀ {H' : Hp}, (∀ b ∈ fp, H' b = none) → ∀ b ∈ fp, FpOk X pins H' b := fun hn b hb => ⟨hn b hb, (f2 b hb).2⟩
 refine codeAny_forLoop_any (fun n s' => ∃ i σ' H', Inv X pins σ' H' s' ∧ tn i s'.heap ∧ (∀ b ∈ fp, H' b = none) ∧ W i n σ' H') ?_ m0 ⟨0, σ, H2, I2, st2, fun b hb => (f2 b hb).1, w0⟩
 rintro n s3 ⟨i, σ3, H3, I3, st3, fr3, w3⟩
 rcases turn i n σ3 H3 w3 with ⟨stop, qn⟩ | ⟨go, N, hN, step⟩
 · refine wpAny_passesOwn hp (thn (T.done X rfl rfl rfl hc i pins s3 σ3 H3 X.xe I3 (stat fr3) st3 stop) fun r s4 ⟨hr, I4⟩ => ?_)
   subst hr
   exact wpAny_execs_nil ⟨σ3, H3, I4, qn⟩
 · refine wpAny_passesOwn hp (thn (T.item X rfl rfl rfl hc i pins s3 σ3 H3 X.xe I3 (stat fr3) st3 go) fun r s4 ⟨u, hr, h4⟩ => ?_)
   subst hr
   refine wpAny_passesOwn hp (thn h4 fun _ s5 ⟨x, H5, I5, r5, y5, st5, fr5⟩ => ?_)
   have I5' := I5.pinned (stat fr5) (T.obj _ _ st5)
   refine wpAny_passesOwn hp (thn (hg _ s5 σ3 H5 x u _ I5' r5 (step x H5 y5)) fun _ s6 ⟨σ6, H6, I6, q6⟩ => ?_)
   refine wpAny_passesOwn hp (thn (hb _ s6 σ6 H6 _ I6 q6) fun f s7 q7 => ?_)
   have again : ∀ {σ7 : St} {H7 : Hp}, Inv X (pins ++ pinsAt fp s5.heap) σ7 H7 s7 → N σ7 H7 → ∃ m, m < n ∧ ∃ i σ' H', Inv X pins σ' H' s7 ∧ tn i s7.heap ∧ (∀ b ∈ fp, H' b = none) ∧ W i m σ' H' := fun {σ7 H7} I7 n7 => by
     obtain ⟨m', hm, w7⟩ := hN σ7 H7 n7
     refine ⟨m', hm, i + 1, σ7, H7, I7.unpinned, T.keep _ _ _ st5 fun b hb o e => (I7.pin (b, o) (List.mem_append_right _ (List.mem_append_right _ (mem_pinsAt hb e)))).1, fun b hb => ?_, w7⟩
     obtain ⟨o, e, d⟩ := T.obj _ _ st5 b hb
     exact (I7.pin (b, o) (List.mem_append_right _ (List.mem_append_right _ (mem_pinsAt hb e)))).2.1
   cases f with
   | next => obtain ⟨σ7, H7, I7, n7⟩ := q7; exact again I7 n7
   | cont => obtain ⟨σ7, H7, I7, n7⟩ := q7; exact again I7 n7
   | brk => obtain ⟨σ7, H7, I7, q7⟩ := q7; exact ⟨σ7, H7, I7.unpinned, q7⟩
   | ret v => obtain ⟨x7, σ7, H7, I7, r7, q7⟩ := q7; exact ⟨x7, σ7, H7, I7.unpinned, r7, q7⟩
end
theorem for_list {K : PySem.W.Frag} {a : Addr} {xs : List V} {g : TG} {tb : TS} {D : Ends} {σ : St} {H : Hp} (Pv : Nat → St → Hp → Prop) (h0 : Pv 0 σ H) (hl : ∀ i σ H, i ≤ xs.length → Pv i σ H → SqL K H a xs)
   (hs : ∀ i x σ H, xs[i]? = some x → Pv i σ H → g x σ H fun σ2 H2 => tb { D with nx := Pv (i + 1), ct := Pv (i + 1), bk := D.nx } σ2 H2) (hd : ∀ σ H, Pv xs.length σ H → D.nx σ H) :
   ∃ W : Nat → Nat → St → Hp → Prop, (∃ m, W 0 m σ H) ∧ ∀ i m σ H, W i m σ H →
     ((Itl K a).stop i H ∧ D.nx σ H) ∨ ((Itl K a).go i H ∧ ∃ N : St → Hp → Prop, (∀ σ' H', N σ' H' → ∃ m', m' < m ∧ W (i + 1) m' σ' H') ∧ ∀ x H', (Itl K a).yld i H x H' → g x σ H' fun σ2 H2 => tb { D with nx := N, ct := N, bk := D.nx } σ2 H2) := by
 refine ⟨fun i m σ H => m = xs.length - i ∧ i ≤ xs.length ∧ Pv i σ H, ⟨xs.length, by simp, Nat.zero_le _, h0⟩, ?_⟩
 rintro i m σ H ⟨rfl, hi, p⟩
 have q := hl i σ H hi p
 by_cases hlt : i < xs.length
 · refine .inr ⟨⟨xs, xs[i], q, by simp [hlt]⟩, Pv (i + 1), fun σ' H' p' => ⟨xs.length - (i + 1), by omega, rfl, hlt, p'⟩, fun x H' y => ?_⟩
   obtain ⟨e, y⟩ := y
   subst e
   exact hs i x σ _ (y xs q) p
 · have e : i = xs.length := by omega
   subst e
   exact .inl ⟨⟨xs, q, Nat.le_refl _⟩, hd σ H p⟩
theorem for_tup {K : PySem.W.Frag} {a : Addr} {xs : List V} {g : TG} {tb : TS} {D : Ends} {σ : St} {H : Hp} (Pv : Nat → St → Hp → Prop) (h0 : Pv 0 σ H) (hl : ∀ i σ H, i ≤ xs.length → Pv i σ H → SqT K H a xs)
   (hs : ∀ i x σ H, xs[i]? = some x → Pv i σ H → g x σ H fun σ2 H2 => tb { D with nx := Pv (i + 1), ct := Pv (i + 1), bk := D.nx } σ2 H2) (hd : ∀ σ H, Pv xs.length σ H → D.nx σ H) :
   ∃ W : Nat → Nat → St → Hp → Prop, (∃ m, W 0 m σ H) ∧ ∀ i m σ H, W i m σ H →
     ((Itt K a).stop i H ∧ D.nx σ H) ∨ ((Itt K a).go i H ∧ ∃ N : St → Hp → Prop, (∀ σ' H', N σ' H' → ∃ m', m' < m ∧ W (i + 1) m' σ' H') ∧ ∀ x H', (Itt K a).yld i H x H' → g x σ H' fun σ2 H2 => tb { D with nx := N, ct := N, bk := D.nx } σ2 H2) := by
 refine ⟨fun i m σ H => m = xs.length - i ∧ i ≤ xs.length ∧ Pv i σ H, ⟨xs.length, by simp, Nat.zero_le _, h0⟩, ?_⟩
 rintro i m σ H ⟨rfl, hi, p⟩
 have q := hl i σ H hi p
 by_cases hlt : i < xs.length
 · refine .inr ⟨⟨xs, xs[i], q, by simp [hlt]⟩, Pv (i + 1), fun σ' H' p' => ⟨xs.length - (i + 1), by omega, rfl, hlt, p'⟩, fun x H' y => ?_⟩
   obtain ⟨e, y⟩ := y
   subst e
   exact hs i x σ _ (y xs q) p
 · have e : i = xs.length := by omega
   subst e
   exact .inl ⟨⟨xs, q, Nat.le_refl _⟩, hd σ H p⟩
theorem for_range {lo : Int} {n : Nat} {g : TG} {tb : TS} {D : Ends} {σ : St} {H : Hp} (Pv : Nat → St → Hp → Prop) (h0 : Pv 0 σ H)
   (hs : ∀ i σ H, i < n → Pv i σ H → g (.int (lo + i)) σ H fun σ2 H2 => tb { D with nx := Pv (i + 1), ct := Pv (i + 1), bk := D.nx } σ2 H2) (hd : ∀ σ H, Pv n σ H → D.nx σ H) :
   ∃ W : Nat → Nat → St → Hp → Prop, (∃ m, W 0 m σ H) ∧ ∀ i m σ H, W i m σ H →
     ((Itr lo n).stop i H ∧ D.nx σ H) ∨ ((Itr lo n).go i H ∧ ∃ N : St → Hp → Prop, (∀ σ' H', N σ' H' → ∃ m', m' < m ∧ W (i + 1) m' σ' H') ∧ ∀ x H', (Itr lo n).yld i H x H' → g x σ H' fun σ2 H2 => tb { D with nx := N, ct := N, bk := D.nx } σ2 H2) := by
 refine ⟨fun i m σ H => m = n - i ∧ i ≤ n ∧ Pv i σ H, ⟨n, by simp, Nat.zero_le _, h0⟩, ?_⟩
 rintro i m σ H ⟨rfl, hi, p⟩
 by_cases hlt : i < n
 · refine .inr ⟨hlt, Pv (i + 1), fun σ' H' p' => ⟨n - (i + 1), by omega, rfl, hlt, p'⟩, fun x H' y => ?_⟩
   obtain ⟨e, y⟩ := y
   subst e y
   exact hs i σ _ hlt p
 · have e : i = n := by omega
   subst e
   exact .inl ⟨Nat.le_refl _, hd σ H p⟩
end L2

namespace L2
open PySem PySem.Spec PyProof.Rows

abbrev R2 := V → V → Hp → VK → Prop
def OpR (X : Cx) (f : Value → Value → Sem Value) (r : R2) : Prop :=
 ∀ (pins : List (Addr × Obj)) (s : Shared) (σ : St) (H : Hp) (x y : V) (v u : Value) (Q : VK), Inv X pins σ H s → RelV x v → RelV y u → r x y H Q →
   wpAny (model X.prog X.w) X.A (f v u) (EP X pins σ Q) X.xe s
def UnR (X : Cx) (f : Value → Sem Value) (r : V → Hp → VK → Prop) : Prop :=
 ∀ (pins : List (Addr × Obj)) (s : Shared) (σ : St) (H : Hp) (x : V) (v : Value) (Q : VK), Inv X pins σ H s → RelV x v → r x H Q →
   wpAny (model X.prog X.w) X.A (f v) (EP X pins σ Q) X.xe s
def CallR (X : Cx) (f : Value) (r : List V → Hp → VK → Prop) : Prop :=
 ∀ (pins : List (Addr × Obj)) (s : Shared) (σ : St) (H : Hp) (xs : List V) (us : List Value) (Q : VK), Inv X pins σ H s → Vals xs us → r xs H Q →
   wpAny (model X.prog X.w) X.A (call f us) (EP X pins σ Q) X.xe s
def tOp (r : R2) (ta tb : TE) : TE := fun σ H Q => ta σ H fun x H1 => tb σ H1 fun y H2 => r x y H2 Q
def tUn (r : V → Hp → VK → Prop) (ta : TE) : TE := fun σ H Q => ta σ H fun x H1 => r x H1 Q
def rI (C : Int → Int → Prop) (g : Int → Int → V) : R2 := fun x y H Q => ∃ i j, x = .int i ∧ y = .int j ∧ C i j ∧ Q (g i j) H
def rI0 (g : Int → Int → V) : R2 := fun x y H Q => ∃ i j, x = .int i ∧ y = .int j ∧ Q (g i j) H
def rU (g : Int → V) : V → Hp → VK → Prop := fun x H Q => ∃ i, x = .int i ∧ Q (g i) H

section
variable {X : Cx} {a b c : Expr} {ta tb tc : TE} {pos : Pos}

theorem binT (ha : PE X a ta) (hb : PE X b tb) {pins : List (Addr × Obj)} {s : Shared} {σ : St} {H : Hp} {R : V → V → Hp → Prop} (I : Inv X pins σ H s)
   (h : ta σ H fun x H1 => tb σ H1 fun y H2 => R x y H2) {Q : Value → Shared → Prop} {f : Value → Value → Sem Value}
   (hf : ∀ v u s2 x y H2, Inv X pins σ H2 s2 → RelV x v → RelV y u → R x y H2 → wpAny (model X.prog X.w) X.A (f v u) Q X.xe s2) :
   wpAny (model X.prog X.w) X.A (eval a X.env) (fun v s₁ => wpAny (model X.prog X.w) X.A (eval b X.env) (fun u s₂ => wpAny (model X.prog X.w) X.A (f v u) Q X.xe s₂) X.xe s₁) X.xe s := by
 refine thn (ha pins s σ H _ I h) fun v s1 ⟨x, H1, I1, r1, q1⟩ => ?_
 refine thn (hb pins s1 σ H1 _ I1 q1) fun u s2 ⟨y, H2, I2, r2, q2⟩ => ?_
 exact hf v u s2 x y H2 I2 r1 r2 q2

theorem pe_op {op : Operator} {r : R2} (ho : OpR X (binaryOp op) r) (ha : PE X a ta) (hb : PE X b tb) : PE X (.BinOp a op b pos) (tOp r ta tb) := by
 intro pins s σ H Q I h
 exact wpAny_BinOp (binT ha hb I h fun v u s2 x y H2 I2 rx ry q => ho pins s2 σ H2 x y v u Q I2 rx ry q)
theorem pe_un {op : UnaryOp} {r : V → Hp → VK → Prop} (ho : UnR X (unaryOp op) r) (ha : PE X a ta) : PE X (.UnaryOp op a pos) (tUn r ta) := by
 intro pins s σ H Q I h
 exact UnaryOp_ (thn (ha pins s σ H _ I h) fun v s1 ⟨x, H1, I1, r1, q1⟩ => ho pins s1 σ H1 x v Q I1 r1 q1)
theorem opI {f : Value → Value → Sem Value} {C : Int → Int → Prop} {g : Int → Int → Int}
   (rule : ∀ (i j : Int) (t u : Tok) (s : Shared) (Q : Value → Shared → Prop) (E : Value → Shared → Prop), C i j → Q (.int (g i j) s.toks) { s with toks := s.toks + 1 } → wpAny (model X.prog X.w) X.A (f (.int i t) (.int j u)) Q E s) :
   OpR X f (rI C fun i j => .int (g i j)) := by
 intro pins s σ H x y v u Q I rx ry h
 obtain ⟨i, j, rfl, rfl, hc, q⟩ := h
 obtain ⟨t, rfl⟩ := rx
 obtain ⟨t', rfl⟩ := ry
 exact rule i j t t' s _ _ hc ⟨.int (g i j), H, I.tok _, ⟨_, rfl⟩, q⟩
theorem opI0 {f : Value → Value → Sem Value} {g : Int → Int → Int}
   (rule : ∀ (i j : Int) (t u : Tok) (s : Shared) (Q : Value → Shared → Prop) (E : Value → Shared → Prop), Q (.int (g i j) s.toks) { s with toks := s.toks + 1 } → wpAny (model X.prog X.w) X.A (f (.int i t) (.int j u)) Q E s) :
   OpR X f (rI0 fun i j => .int (g i j)) := by
 intro pins s σ H x y v u Q I rx ry h
 obtain ⟨i, j, rfl, rfl, q⟩ := h
 obtain ⟨t, rfl⟩ := rx
 obtain ⟨t', rfl⟩ := ry
 exact rule i j t t' s _ _ ⟨.int (g i j), H, I.tok _, ⟨_, rfl⟩, q⟩
theorem opB0 {f : Value → Value → Sem Value} {g : Int → Int → Bool}
   (rule : ∀ (i j : Int) (t u : Tok) (s : Shared) (Q : Value → Shared → Prop) (E : Value → Shared → Prop), Q (.bool (g i j)) s → wpAny (model X.prog X.w) X.A (f (.int i t) (.int j u)) Q E s) :
   OpR X f (rI0 fun i j => .bl (g i j)) := by
 intro pins s σ H x y v u Q I rx ry h
 obtain ⟨i, j, rfl, rfl, q⟩ := h
 obtain ⟨t, rfl⟩ := rx
 obtain ⟨t', rfl⟩ := ry
 exact rule i j t t' s _ _ ⟨.bl (g i j), H, I, rfl, q⟩

def CDiv (i j : Int) : Prop := 0 < j ∧ j < 1073741824
def CPow (i j : Int) : Prop := 0 ≤ j ∧ j ≤ 1000000 ∧ i.natAbs < 2 ^ 64
def CMul (i j : Int) : Prop := (-(2 ^ 64) < i ∧ i < 2 ^ 64) ∨ (-(2 ^ 64) < j ∧ j < 2 ^ 64)
theorem CMul.ok {i j : Int} (h : CMul i j) : IntMulOk i j := by
 rcases h with ⟨h1, h2⟩ | ⟨h1, h2⟩
 · exact .of_left (intBits_le_64 h1 h2)
 · exact .of_right (intBits_le_64 h1 h2)
theorem op_add : OpR X (binaryOp .Add) (rI0 fun i j => .int (i + j)) := opI0 fun _ _ _ _ _ _ _ q => add_int q
theorem op_sub : OpR X (binaryOp .Sub) (rI0 fun i j => .int (i - j)) := opI0 fun _ _ _ _ _ _ _ q => sub_int q
theorem op_mul : OpR X (binaryOp .Mult) (rI CMul fun i j => .int (i * j)) := opI fun _ _ _ _ _ _ _ hc q => mul_int q hc.ok
theorem op_fdiv : OpR X (binaryOp .FloorDiv) (rI CDiv fun i j => .int (i / j)) := opI fun i j _ _ _ _ _ hc q => by
 have h1 : (0 : Int) < j := hc.1
 have h2 : j < 1073741824 := hc.2
 exact floordiv_int (by omega) (by rw [Int.fdiv_eq_ediv_of_nonneg i (by omega)]; exact q) (.inl (PyProof.noPylong_small (by omega)))
theorem op_mod : OpR X (binaryOp .Mod) (rI (fun _ j => 0 < j) fun i j => .int (i % j)) := opI fun i j _ _ _ _ _ hc q => by
 have h1 : (0 : Int) < j := hc
 exact mod_int' (by omega) (by rw [Int.fmod_eq_emod_of_nonneg i (by omega)]; exact q)
theorem op_pow : OpR X (binaryOp .Pow) (rI CPow fun i j => .int (i ^ j.toNat)) := opI fun _ _ _ _ _ _ _ hc q => pow_int_small hc.1 hc.2.1 hc.2.2 q
theorem unI {f : Value → Sem Value} {g : Int → Int}
   (rule : ∀ (i : Int) (t : Tok) (s : Shared) (Q : Value → Shared → Prop) (E : Value → Shared → Prop), Q (.int (g i) s.toks) { s with toks := s.toks + 1 } → wpAny (model X.prog X.w) X.A (f (.int i t)) Q E s) :
   UnR X f (rU fun i => .int (g i)) := by
 intro pins s σ H x v Q I rx h
 obtain ⟨i, rfl, q⟩ := h
 obtain ⟨t, rfl⟩ := rx
 exact rule i t s _ _ ⟨.int (g i), H, I.tok _, ⟨_, rfl⟩, q⟩
theorem un_neg : UnR X (unaryOp .USub) (rU fun i => .int (-i)) := unI fun _ _ _ _ _ q => neg_int q
end
def scal : V → V → Bool
 | .non, .non => true | .non, .int _ => true | .int _, .non => true | .non, .bl _ => true | .bl _, .non => true | .non, .str _ => true | .str _, .non => true
 | .int _, .int _ => true | .bl _, .bl _ => true | .str _, .str _ => true | .byt _, .byt _ => true
 | .int _, .str _ => true | .str _, .int _ => true | .bl _, .str _ => true | .str _, .bl _ => true
 | _, _ => false
def rEq : R2 := fun x y H Q => scal x y = true ∧ Q (.bl (decide (x = y))) H
def rNe : R2 := fun x y H Q => scal x y = true ∧ Q (.bl (!decide (x = y))) H

theorem dec_int {i j : Int} : decide (V.int i = V.int j) = (i == j) := by
 rw [Bool.eq_iff_iff]
 simp
theorem dec_bl {i j : Bool} : decide (V.bl i = V.bl j) = (i == j) := by
 rw [Bool.eq_iff_iff]
 simp
theorem dec_str {i j : Str} : decide (V.str i = V.str j) = (i == j) := by
 rw [Bool.eq_iff_iff]
 simp
theorem dec_byt {i j : Array UInt8} : decide (V.byt i = V.byt j) = (i.toList == j.toList) := by
 rw [Bool.eq_iff_iff]
 cases i
 cases j
 simp

section
variable {X : Cx} {a b c : Expr} {ta tb tc : TE} {pos : Pos}
theorem fin_bl {pins : List (Addr × Obj)} {σ : St} {H : Hp} {s : Shared} {Q : VK} {k k' : Bool} (I : Inv X pins σ H s) (q : Q (.bl k) H) (e : k = k') : EP X pins σ Q (.bool k') s := by
 subst e
 exact ⟨.bl k, H, I, rfl, q⟩
theorem op_eq : OpR X (compareOp .Eq) rEq := by
 intro pins s σ H x y v u Q I rx ry h
 obtain ⟨hs, q⟩ := h
 cases x with
 | non =>
   cases rx
   cases y with
   | non => cases ry; exact PySem.EqNone.eq_none_none (fin_bl I q (by simp))
   | bl j => cases ry; exact PySem.EqNone.eq_none_bool (fin_bl I q (by simp))
   | int j => obtain ⟨t', rfl⟩ := ry; exact PySem.EqNone.eq_none_int (fin_bl I q (by simp))
   | str j => obtain ⟨t', rfl⟩ := ry; exact PySem.EqNone.eq_none_str (fin_bl I q (by simp))
   | _ => exact absurd (show false = true from hs) Bool.false_ne_true
 | bl i =>
   cases rx
   cases y with
   | non => cases ry; exact PySem.EqNone.eq_bool_none (fin_bl I q (by simp))
   | bl j => cases ry; exact eq_bool (fin_bl I q dec_bl)
   | str j => obtain ⟨t', rfl⟩ := ry; exact PySem.EqMixed.eq_bool_str (fin_bl I q (by simp))
   | _ => exact absurd (show false = true from hs) Bool.false_ne_true
 | int i =>
   obtain ⟨t, rfl⟩ := rx
   cases y with
   | non => cases ry; exact PySem.EqNone.eq_int_none (fin_bl I q (by simp))
   | int j => obtain ⟨t', rfl⟩ := ry; exact eq_int (fin_bl I q dec_int)
   | str j => obtain ⟨t', rfl⟩ := ry; exact PySem.EqMixed.eq_int_str (fin_bl I q (by simp))
   | _ => exact absurd (show false = true from hs) Bool.false_ne_true
 | str i =>
   obtain ⟨t, rfl⟩ := rx
   cases y with
   | non => cases ry; exact PySem.EqNone.eq_str_none (fin_bl I q (by simp))
   | bl j => cases ry; exact PySem.EqMixed.eq_str_bool (fin_bl I q (by simp))
   | int j => obtain ⟨t', rfl⟩ := ry; exact PySem.EqMixed.eq_str_int (fin_bl I q (by simp))
   | str j => obtain ⟨t', rfl⟩ := ry; exact eq_str (fin_bl I q dec_str)
   | _ => exact absurd (show false = true from hs) Bool.false_ne_true
 | byt i =>
   obtain ⟨t, rfl⟩ := rx
   cases y with
   | byt j => obtain ⟨t', rfl⟩ := ry; exact PySem.W.eq_bytes (fin_bl I q dec_byt)
   | _ => exact absurd (show false = true from hs) Bool.false_ne_true
 | _ => cases y <;> exact absurd (show false = true from hs) Bool.false_ne_true
theorem op_ne : OpR X (compareOp .NotEq) rNe := by
 intro pins s σ H x y v u Q I rx ry h
 obtain ⟨hs, q⟩ := h
 cases x with
 | non =>
   cases rx
   cases y with
   | non => cases ry; exact PySem.EqNone.ne_none_none (fin_bl I q (by simp))
   | bl j => cases ry; exact PySem.EqNone.ne_none_bool (fin_bl I q (by simp))
   | int j => obtain ⟨t', rfl⟩ := ry; exact PySem.EqNone.ne_none_int (fin_bl I q (by simp))
   | str j => obtain ⟨t', rfl⟩ := ry; exact PySem.EqNone.ne_none_str (fin_bl I q (by simp))
   | _ => exact absurd (show false = true from hs) Bool.false_ne_true
 | bl i =>
   cases rx
   cases y with
   | non => cases ry; exact PySem.EqNone.ne_bool_none (fin_bl I q (by simp))
   | bl j => cases ry; exact ne_bool (fin_bl I q (congrArg not dec_bl))
   | str j => obtain ⟨t', rfl⟩ := ry; exact PySem.EqMixed.ne_bool_str (fin_bl I q (by simp))
   | _ => exact absurd (show false = true from hs) Bool.false_ne_true
 | int i =>
   obtain ⟨t, rfl⟩ := rx
   cases y with
   | non => cases ry; exact PySem.EqNone.ne_int_none (fin_bl I q (by simp))
   | int j => obtain ⟨t', rfl⟩ := ry; exact ne_int (fin_bl I q (congrArg not dec_int))
   | str j => obtain ⟨t', rfl⟩ := ry; exact PySem.EqMixed.ne_int_str (fin_bl I q (by simp))
   | _ => exact absurd (show false = true from hs) Bool.false_ne_true
 | str i =>
   obtain ⟨t, rfl⟩ := rx
   cases y with
   | non => cases ry; exact PySem.EqNone.ne_str_none (fin_bl I q (by simp))
   | bl j => cases ry; exact PySem.EqMixed.ne_str_bool (fin_bl I q (by simp))
   | int j => obtain ⟨t', rfl⟩ := ry; exact PySem.EqMixed.ne_str_int (fin_bl I q (by simp))
   | str j => obtain ⟨t', rfl⟩ := ry; exact ne_str (fin_bl I q (congrArg not dec_str))
   | _ => exact absurd (show false = true from hs) Bool.false_ne_true
 | byt i =>
   obtain ⟨t, rfl⟩ := rx
   cases y with
   | byt j => obtain ⟨t', rfl⟩ := ry; exact PySem.W.ne_bytes (fin_bl I q (congrArg not dec_byt))
   | _ => exact absurd (show false = true from hs) Bool.false_ne_true
 | _ => cases y <;> exact absurd (show false = true from hs) Bool.false_ne_true

theorem op_lt : OpR X (compareOp .Lt) (rI0 fun i j => .bl (decide (i < j))) := opB0 fun _ _ _ _ _ _ _ q => lt_int q
theorem op_le : OpR X (compareOp .LtE) (rI0 fun i j => .bl (decide (i ≤ j))) := opB0 fun _ _ _ _ _ _ _ q => le_int q
theorem op_gt : OpR X (compareOp .Gt) (rI0 fun i j => .bl (decide (j < i))) := opB0 fun _ _ _ _ _ _ _ q => gt_int q
theorem op_ge : OpR X (compareOp .GtE) (rI0 fun i j => .bl (decide (j ≤ i))) := opB0 fun _ _ _ _ _ _ _ q => ge_int q
theorem op_in_str : OpR X (compareOp .In) (fun x y H Q => ∃ i j, x = .str i ∧ y = .str j ∧ Q (.bl (!(Builtin.Str.occurrences j i 0 j.length 1).isEmpty)) H) := by
 intro pins s σ H x y v u Q I rx ry h
 obtain ⟨i, j, rfl, rfl, q⟩ := h
 obtain ⟨t, rfl⟩ := rx
 obtain ⟨t', rfl⟩ := ry
 exact in_str (fin_bl I q rfl)
theorem op_isN : OpR X (compareOp .Is) (fun x y H Q => y = .non ∧ Q (.bl (decide (x = .non))) H) := by
 intro pins s σ H x y v u Q I rx ry h
 obtain ⟨rfl, q⟩ := h
 cases ry
 refine is_none_gen (fin_bl I q ?_)
 cases x <;> first
   | (cases rx; rfl)
   | (obtain ⟨t, rfl⟩ := rx; rfl)
theorem op_notN : OpR X (compareOp .IsNot) (fun x y H Q => y = .non ∧ Q (.bl (!decide (x = .non))) H) := by
 intro pins s σ H x y v u Q I rx ry h
 obtain ⟨rfl, q⟩ := h
 cases ry
 refine isnot_none_gen (fin_bl I q ?_)
 cases x <;> first
   | (cases rx; rfl)
   | (obtain ⟨t, rfl⟩ := rx; rfl)

theorem OpR.or {f : Value → Value → Sem Value} {r r' : R2} (h : OpR X f r) (h' : OpR X f r') : OpR X f (fun x y H Q => r x y H Q ∨ r' x y H Q) := by
 intro pins s σ H x y v u Q I rx ry q
 rcases q with q | q
 · exact h pins s σ H x y v u Q I rx ry q
 · exact h' pins s σ H x y v u Q I rx ry q

theorem nomark (b : Expr) {op : CmpOp} (h : op ≠ .In := by decide) (h2 : op ≠ .NotIn := by decide) : behindInMarks op b = false := by
 have e1 : (op == CmpOp.In) = false := by cases op <;> first | rfl | exact absurd rfl h
 have e2 : (op == CmpOp.NotIn) = false := by cases op <;> first | rfl | exact absurd rfl h2
 cases b <;> simp [behindInMarks, e1, e2]
theorem pe_cmpR {op : CmpOp} {r : R2} (ho : OpR X (compareOp op) r) (ha : PE X a ta) (hb : PE X b tb) (hm : behindInMarks op b = false) : PE X (.Compare a [op] [b] pos) (tOp r ta tb) := by
 intro pins s σ H Q I h
 exact wpAny_Compare1 (binT ha hb I h fun v u s2 x y H2 I2 rx ry q => ho pins s2 σ H2 x y v u Q I2 rx ry q) hm
def tTest (t : TE) : TT := fun σ H Q => t σ H fun x H' => ∃ k, x = .bl k ∧ Q k H'
theorem pt_cmpR {op : CmpOp} {r : R2} (ho : OpR X (compareOp op) r) (ha : PE X a ta) (hb : PE X b tb) (hm : behindInMarks op b = false) : PT X (.Compare a [op] [b] pos) (tTest (tOp r ta tb)) := by
 intro pins s σ H Q I h
 refine wpAny_isTrue_Compare1 (thn (ha pins s σ H _ I h) fun v s1 ⟨x, H1, I1, r1, q1⟩ => thn (hb pins s1 σ H1 _ I1 q1) fun u s2 ⟨y, H2, I2, r2, q2⟩ =>
   thn (ho pins s2 σ H2 x y v u _ I2 r1 r2 q2) fun c s3 ⟨z, H3, I3, r3, k, e, q3⟩ => ?_) hm
 subst e
 cases r3
 exact wpAny_truthy_bool ⟨H3, I3, q3⟩
theorem line63 : (sizeLine : Nat) < 2 ^ 63 := by rw [sizeLine_eq]; decide
theorem op_add_str : OpR X (binaryOp .Add) (fun x y H Q => ∃ i j, x = .str i ∧ y = .str j ∧ i.length + j.length ≤ sizeLine ∧ Q (.str (i ++ j)) H) := by
 intro pins s σ H x y v u Q I rx ry h
 obtain ⟨i, j, rfl, rfl, hz, q⟩ := h
 obtain ⟨t, rfl⟩ := rx
 obtain ⟨t', rfl⟩ := ry
 exact add_str (fun t' tk => ⟨.str (i ++ j), H, I.tok _, ⟨_, rfl⟩, q⟩) hz
theorem vals1 {x : V} {us : List Value} (r : Vals [x] us) : ∃ u, us = [u] ∧ RelV x u := by
 cases r with
 | cons r1 r2 => cases r2; exact ⟨_, rfl, r1⟩
theorem vals2 {x y : V} {us : List Value} (r : Vals [x, y] us) : ∃ u w', us = [u, w'] ∧ RelV x u ∧ RelV y w' := by
 cases r with
 | cons r1 r2 =>
   cases r2 with
   | cons r3 r4 => cases r4; exact ⟨_, _, rfl, r1, r3⟩
theorem call_int1 : CallR X (.type "int") (fun xs H Q => (∃ i, xs = [.int i] ∧ Q (.int i) H) ∨ ∃ k, xs = [.bl k] ∧ Q (.int (if k then 1 else 0)) H) := by
 intro pins s σ H xs us Q I r h
 rcases h with ⟨i, rfl, q⟩ | ⟨k, rfl, q⟩
 · obtain ⟨u, rfl, t, rfl⟩ := vals1 r
   exact call_int_int ⟨.int i, H, I, ⟨_, rfl⟩, q⟩
 · obtain ⟨u, rfl, r1⟩ := vals1 r
   cases r1
   exact call_int_bool ⟨.int (if k then 1 else 0), H, I.tok _, ⟨_, rfl⟩, q⟩
theorem call_ord : CallR X (.builtin "ord") (fun xs H Q => ∃ x, xs = [.str x] ∧ x.length = 1 ∧ Q (.int (x.cps.getD 0 0 : Nat)) H) := by
 intro pins s σ H xs us Q I r h
 obtain ⟨x, rfl, hz, q⟩ := h
 obtain ⟨u, rfl, t, rfl⟩ := vals1 r
 exact ord_of_one hz ⟨.int _, H, I.tok _, ⟨_, rfl⟩, q⟩
end
end L2

namespace L2
open PySem PySem.Spec PyProof.Rows
structure ObjM (h : Heap) (x dx C : Addr) (mA : Str → Option Value) : Prop where
 obj : h.get? x = some (PySem.W.instObj C dx)
 ns : h.Ns1 dx mA
 ne : dx ≠ x

theorem lookIn_ns {h : Heap} {dx : Addr} {mA : Str → Option Value} (n : h.Ns1 dx mA) : ∃ od, h.get? dx = some od ∧ ∀ name, PySem.W.lookIn name od = some (mA name) := by
 obtain ⟨o, es, ep, ho, hd, hk, _, hm⟩ := n
 refine ⟨o, ho, fun name => ?_⟩
 have e := hm name
 unfold nsFind findBy at e
 rw [← Array.find?_toList] at e
 unfold PySem.W.lookIn
 rw [hd]
 dsimp only
 split
 · rename_i y q
   rw [q] at e
   exact congrArg some e
 · rename_i q
   rw [q] at e
   have a : es.toList.any (·.refKey) = false := by
     rw [List.any_eq_false]
     intro y hy
     obtain ⟨z, t, hkey⟩ := hk y (Array.mem_toList_iff.mp hy)
     simp [DictEntry.refKey, hkey]
   have a' : ¬ es.toList.any (·.refKey) = true := by rw [a]; exact Bool.false_ne_true
   rw [if_neg a']
   exact congrArg some e

theorem ObjM.look {h : Heap} {x dx C : Addr} {mA : Str → Option Value} (I : ObjM h x dx C mA) : ∃ od, PySem.W.InstAt h x (PySem.W.instObj C dx) C (some od) ∧ ∀ name, PySem.W.lookIn name od = some (mA name) :=
 let ⟨od, ho, hl⟩ := lookIn_ns I.ns
 ⟨od, ⟨I.obj, rfl, rfl, ho⟩, hl⟩

section
variable {prog : Program} {w : World} {A : Around} {E : Value → Shared → Prop} {s : Shared} {K : PySem.W.Frag} {x dx C f : Addr} {mA : Str → Option Value} {name : Str} {v : Value}

theorem get_map {expr : Bool} {Q : Value → Shared → Prop} (X : K.In s.heap) (I : ObjM s.heap x dx C mA) (hg : PySem.W.plainGet K C name = true) (hh : PySem.W.hasDictIn K C = true)
   (ha : PySem.W.findIn K (.ref C) name = some none) (hv : mA name = some v) (hv' : PySem.W.handedIn v = true) (h : Q v { s with toks := s.toks + 1 }) :
   wpAny (model prog w) A (getAttr (.ref x) name expr) Q E s := by
 obtain ⟨od, J, hl⟩ := I.look
 exact PySem.W.get_value X J (PySem.W.plainGet_of hg).1 (PySem.W.findObj_own hh ha rfl (by rw [hl, hv])) hv' h

theorem get_meth {pl : Sem Bool} {Q : Value × List Value → Shared → Prop} (X : K.In s.heap) (I : ObjM s.heap x dx C mA) (hg : PySem.W.plainGet K C name = true)
   (hf : PySem.W.findIn K (.ref C) name = some (some (.ref f))) (ht : PySem.W.isFn K (.ref f) = true) (hv : mA name = none) (h : Q (.ref f, [.ref x]) s) :
   wpAny (model prog w) A (getMethod (.ref x) name pl) Q E s := by
 obtain ⟨od, J, hl⟩ := I.look
 exact PySem.W.method_fn X J (PySem.W.plainGet_of hg).1 (PySem.W.plainGet_of hg).2 hf (beq_iff_eq.mp ht) (by show (PySem.W.lookIn name od).map (·.isSome) = some false; rw [hl, hv]; rfl) h

theorem set_map {ns : List Str} {Q : Unit → Shared → Prop} (X : K.In s.heap) (I : ObjM s.heap x dx C mA)
   (hs : PySem.W.findIn K (.ref C) "__setattr__" = some (some (.builtin "object.__setattr__"))) (hp : PySem.W.plainOver K C = true) (ht : PySem.W.takerIn K C name = some none) (hh : PySem.W.hasDictIn K C = true)
   (hw : PySem.Within mA ns) (hsz : ns.length ≤ sizeLine)
   (h : ∀ h', ObjM h' x dx C (fun y => if y = name then some v else mA y) → Heap.SameBut dx s.heap h' → Q () { s with heap := h', toks := s.toks + 2 }) :
   wpAny (model prog w) A (setAttr (.ref x) name v) Q E s := by
 obtain ⟨od, J, hl⟩ := I.look
 refine PySem.W.set_plain X J hs (PySem.W.osa_open (s := { s with toks := s.toks + 1 }) (r := none) X J hp ht fun b => ?_)
 obtain ⟨cd, hc, hd'⟩ := PySem.W.any_some hh
 have hx : s.heap.get? x = some ⟨.ref C, some dx, .plain, #[]⟩ := I.obj
 refine wpAny_bind (wpAny_pure (wpAny_bind (wpAny_bind (wpAny_loadPart hx (wpAny_bind (PySem.W.Looks.here (s := { s with toks := s.toks + 1 }) (PySem.W.looks_clsIn X hc) ?_))))))
 rw [hd']
 refine wpAny_pure (a := some dx) (wpAny_bind (wpAny_pure (wpAny_bind ?_)))
 refine wpAny_nsSet1 (s := { s with toks := s.toks + 1 }) I.ns fun h' hn2 hs2 => ?_
 obtain ⟨oD, esD, epD, hoD, hdD, hcD⟩ := hn2.count (PySem.Within.cons name v hw)
 refine wpAny_bind (wpAny_lookBehind hoD (by rw [hdD]; exact pastItsLine_dict (Nat.le_trans hcD (by rw [List.length_cons]; omega))) ?_)
 exact wpAny_pure (h _ ⟨(hs2.2 _ (Ne.symm I.ne)).trans I.obj, hn2, I.ne⟩ hs2)
theorem make_map {R : Result → Shared → Prop} {vs : List Value} {kw : List (Str × Value)} (X : K.In s.heap) (hm : PySem.W.makesIn K C = true)
   (hi : PySem.W.findIn K (.ref C) "__init__" = some (some (.ref f))) (hf : PySem.W.typeIn K (.ref f) = some (.type "function"))
   (h : codeAny (model prog w) (A.under (.builtin "type.__call__" ⟨.ref C :: vs, kw⟩)) (.call (.ref f) ⟨.ref (s.heap.objs.size + 1) :: vs, kw⟩) (PySem.W.InitBack (s.heap.objs.size + 1) R)
     { s with heap := (s.heap.push PySem.W.emptyDict).push (PySem.W.instObj C s.heap.objs.size) }) :
   codeAny (model prog w) A (.call (.ref C) ⟨vs, kw⟩) R s := by
 obtain ⟨hh, g, d, t, os⟩ := s
 exact PySem.W.make_core (PySem.W.makes_of X hm) (PySem.W.looks_findIn X hi) (fun self => PySem.W.bind_fn X self hf) (.inl rfl) h
end
def putF (f : Str) (v : V) : List (Str × V) → List (Str × V)
 | [] => [(f, v)]
 | (g, x) :: r => if g = f then (g, v) :: r else (g, x) :: putF f v r
theorem lookup_putF (f g : Str) (v : V) : ∀ fs : List (Str × V), (putF f v fs).lookup g = if g = f then some v else fs.lookup g
 | [] => by
   show List.lookup g [(f, v)] = _
   by_cases h : g = f
   · have hb : (g == f) = true := beq_iff_eq.mpr h
     simp only [List.lookup, hb, if_pos h]
   · have hb : (g == f) = false := beq_eq_false_iff_ne.mpr h
     simp only [List.lookup, hb, if_neg h]
 | (k, x) :: r => by
   have ih := lookup_putF f g v r
   rw [show putF f v ((k, x) :: r) = (if k = f then (k, v) :: r else (k, x) :: putF f v r) from rfl]
   by_cases hk : k = f
   · rw [if_pos hk]
     by_cases h : g = k
     · have hb : (g == k) = true := beq_iff_eq.mpr h
       simp only [List.lookup, hb, if_pos (h.trans hk)]
     · have hb : (g == k) = false := beq_eq_false_iff_ne.mpr h
       simp only [List.lookup, hb, if_neg (fun e : g = f => h (e.trans hk.symm))]
   · rw [if_neg hk]
     by_cases h : g = k
     · have hb : (g == k) = true := beq_iff_eq.mpr h
       simp only [List.lookup, hb, if_neg (fun e : g = f => hk (h.symm.trans e))]
     · have hb : (g == k) = false := beq_eq_false_iff_ne.mpr h
       simp only [List.lookup, hb]
       exact ih
theorem keys_putF (f : Str) (v : V) : ∀ fs : List (Str × V), f ∈ (putF f v fs).map (·.1) ∧ ∀ g, g ∈ fs.map (·.1) → g ∈ (putF f v fs).map (·.1)
 | [] => ⟨by simp [putF], fun g h => by simp at h⟩
 | (k, x) :: r => by
   obtain ⟨i1, i2⟩ := keys_putF f v r
   rw [show putF f v ((k, x) :: r) = (if k = f then (k, v) :: r else (k, x) :: putF f v r) from rfl]
   by_cases hk : k = f
   · rw [if_pos hk]
     subst hk
     exact ⟨by simp, fun g h => by simpa using h⟩
   · rw [if_neg hk]
     refine ⟨?_, fun g h => ?_⟩
     · rw [List.map_cons]
       exact List.mem_cons_of_mem _ i1
     · rw [List.map_cons] at h ⊢
       rcases List.mem_cons.mp h with e | e
       · exact List.mem_cons.mpr (.inl e)
       · exact List.mem_cons_of_mem _ (i2 g e)
theorem length_putF (f : Str) (v : V) : ∀ fs : List (Str × V), (putF f v fs).length ≤ fs.length + 1
 | [] => by simp [putF]
 | (k, x) :: r => by
   have ih := length_putF f v r
   rw [show putF f v ((k, x) :: r) = (if k = f then (k, v) :: r else (k, x) :: putF f v r) from rfl]
   by_cases hk : k = f
   · rw [if_pos hk, List.length_cons, List.length_cons]; omega
   · rw [if_neg hk, List.length_cons, List.length_cons]; omega

theorem RelO.some_of {v : V} {o : Option Value} (r : RelO (some v) o) : ∃ u, o = some u ∧ RelV v u := by
 cases o with
 | none => exact (show False from r).elim
 | some u => exact ⟨u, rfl, r⟩
theorem RelO.none_of {o : Option Value} (r : RelO none o) : o = none := by
 cases o with
 | none => rfl
 | some u => exact (show False from r).elim
theorem handed_of {v : V} {u : Value} (r : RelV v u) : PySem.W.handedIn u = true := by
 cases v with
 | non => cases (show u = Value.none from r); rfl
 | bl b => cases (show u = Value.bool b from r); rfl
 | int i => obtain ⟨t, e⟩ := (show ∃ t, u = Value.int i t from r); cases e; rfl
 | str x => obtain ⟨t, e⟩ := (show ∃ t, u = Value.str x t from r); cases e; rfl
 | byt b => obtain ⟨t, e⟩ := (show ∃ t, u = Value.bytes b t from r); cases e; rfl
 | flt b => obtain ⟨t, e⟩ := (show ∃ t, u = Value.float b t from r); cases e; rfl
 | ref a => cases (show u = Value.ref a from r); rfl
 | ty n => cases (show u = Value.type n from r); rfl

section
variable {P : Program} {w : World} {H H' : Hp} {h h' : Heap} {a C dx : Addr} {fs fs' : List (Str × V)}
theorem ins_get (hok : HOk P w H h) (e : H a = some (.ins C dx fs)) : ∃ mA, ObjM h a dx C mA ∧ (∀ f, RelO (fs.lookup f) (mA f)) ∧ PySem.Within mA (fs.map (·.1)) ∧ fs.length ≤ 1000 ∧ H dx = some (.own a) := by
 obtain ⟨d, z, ne, ob, mA, n, r, q⟩ := (show ObjOk P w H h a (.ins C dx fs) from hok a _ e)
 exact ⟨mA, ⟨ob, n, ne⟩, r, q, z, d⟩
end
structure Cls (K : PySem.W.Frag) (C : Addr) : Prop where
 pg : PySem.W.plainGet K C Str.empty = true
 hd : PySem.W.hasDictIn K C = true
 po : PySem.W.plainOver K C = true
 sa : PySem.W.findIn K (.ref C) "__setattr__" = some (some (.builtin "object.__setattr__"))
theorem Cls.get {K : PySem.W.Frag} {C : Addr} (c : Cls K C) (f : Str) : PySem.W.plainGet K C f = true := c.pg
def NoAttr (K : PySem.W.Frag) (C : Addr) (f : Str) : Prop := PySem.W.findIn K (.ref C) f = some none
theorem NoAttr.taker {K : PySem.W.Frag} {C : Addr} {f : Str} (n : NoAttr K C f) : PySem.W.takerIn K C f = some none := by
 unfold PySem.W.takerIn
 rw [show PySem.W.findIn K (.ref C) f = some none from n]
 rfl
structure Meth (K : PySem.W.Frag) (C : Addr) (m : Str) (f : Addr) : Prop where
 at_ : PySem.W.findIn K (.ref C) m = some (some (.ref f))
 fn : PySem.W.isFn K (.ref f) = true
 kp : PySem.W.keepIn K (.ref f) = true

section
variable {X : Cx} {pins : List (Addr × Obj)} {σ : St} {H : Hp} {s : Shared} {a C dx : Addr} {fs : List (Str × V)} {f : Str} {v : V} {A : Around} {E : Value → Shared → Prop}

theorem getattr_ok {b : Bool} {Q : Value → Shared → Prop} (I : Inv X pins σ H s) (e : H a = some (.ins C dx fs)) (c : Cls X.K C) (n : NoAttr X.K C f) (l : fs.lookup f = some v)
   (h : ∀ u s', Inv X pins σ H s' → RelV v u → Q u s') : wpAny (model X.prog X.w) A (getAttr (.ref a) f b) Q E s := by
 obtain ⟨mA, O, r, _, _, _⟩ := ins_get I.hok e
 obtain ⟨u, hu, ru⟩ := RelO.some_of (v := v) (o := mA f) (by rw [← l]; exact r f)
 exact get_map I.kIn O (c.get f) c.hd n hu (handed_of ru) (h u _ (I.tok _) ru)

theorem getmeth_ok {m : Str} {g : Addr} {pl : Sem Bool} {Q : Value × List Value → Shared → Prop} (I : Inv X pins σ H s) (e : H a = some (.ins C dx fs)) (c : Cls X.K C) (k : Meth X.K C m g) (l : fs.lookup m = none)
   (h : Q (.ref g, [.ref a]) s) : wpAny (model X.prog X.w) A (getMethod (.ref a) m pl) Q E s := by
 obtain ⟨mA, O, r, _, _, _⟩ := ins_get I.hok e
 have hn : mA m = none := RelO.none_of (by rw [← l]; exact r m)
 exact get_meth I.kIn O (c.get m) k.at_ k.fn hn h

theorem setattr_ok {y : V} {u : Value} {Q : Unit → Shared → Prop} (I : Inv X pins σ H s) (e : H a = some (.ins C dx fs)) (c : Cls X.K C) (n : NoAttr X.K C f) (hl : fs.length < 1000) (ry : RelV y u)
   (h : ∀ s', Inv X pins σ (upd H a (.ins C dx (putF f y fs))) s' → Q () s') : wpAny (model X.prog X.w) A (setAttr (.ref a) f u) Q E s := by
 obtain ⟨mA, O, r, wi, _, ho⟩ := ins_get I.hok e
 have hz : (fs.map (·.1)).length ≤ sizeLine := by rw [List.length_map, sizeLine_eq]; omega
 refine set_map I.kIn O c.sa c.po n.taker c.hd wi hz fun h' O' sb => h _ ?_
 have hd : ∃ o, h'.get? dx = some o := let ⟨o, _, _, e', _⟩ := O'.ns; ⟨o, e'⟩
 refine I.write (x := a) (e := dx) (by rw [e]; exact True.intro) (.inr ho) (fun b q hb z => (sb.2 b hb).trans z) hd ?_
 refine ⟨by rw [upd_ne O.ne]; exact ho, ?_, O.ne, O'.obj, _, O'.ns, fun g => ?_, fun g hg => ?_⟩
 · have := length_putF f y fs; omega
 · show RelO ((putF f y fs).lookup g) (if g = f then some u else mA g)
   rw [lookup_putF]
   by_cases q : g = f
   · rw [if_pos q, if_pos q]; exact ry
   · rw [if_neg q, if_neg q]; exact r g
 · by_cases q : g = f
   · rw [q]; exact (keys_putF f y fs).1
   · refine (keys_putF f y fs).2 g (wi g fun z => hg ?_)
     show (if g = f then some u else mA g) = none
     rw [if_neg q]; exact z
theorem Inv.made (I : Inv X pins σ H s) : Inv X pins σ (upd (upd H s.heap.objs.size (.own (s.heap.objs.size + 1))) (s.heap.objs.size + 1) (.ins C s.heap.objs.size []))
   { s with heap := (s.heap.push PySem.W.emptyDict).push (PySem.W.instObj C s.heap.objs.size) } := by
 have e1 : (s.heap.push PySem.W.emptyDict).get? s.heap.objs.size = some PySem.W.emptyDict := Heap.get?_push_size s.heap rfl
 have e2 : ((s.heap.push PySem.W.emptyDict).push (PySem.W.instObj C s.heap.objs.size)).get? (s.heap.objs.size + 1) = some (PySem.W.instObj C s.heap.objs.size) := by
   have := Heap.get?_push_size (s.heap.push PySem.W.emptyDict) (o := PySem.W.instObj C s.heap.objs.size) rfl
   rwa [Heap.size_push] at this
 have e3 : (s.heap.push PySem.W.emptyDict).Ns s.heap.objs.size (fun _ => none) := ⟨PySem.W.emptyDict, #[], _, e1, rfl, (fun e he => absurd he (by simp)), fun _ => rfl⟩
 have I1 := I.laid (a := s.heap.objs.size) (o := .own (s.heap.objs.size + 1)) (h' := s.heap.push PySem.W.emptyDict) (t' := s.toks) (fun b u q => Heap.get?_push_of_some _ q) (Nat.le_refl _) ⟨_, e1⟩
 refine I1.laid (a := s.heap.objs.size + 1) (o := .ins C s.heap.objs.size []) (t' := s.toks) (fun b u q => Heap.get?_push_of_some _ q) (Nat.le_of_eq (Heap.size_push _ _)) ?_
 have ne : s.heap.objs.size ≠ s.heap.objs.size + 1 := Nat.ne_of_lt (Nat.lt_succ_self _)
 refine ⟨by rw [upd_ne ne, upd_same], Nat.zero_le _, ne, e2, fun _ => none, (Heap.Ns1.of_empty e3).at fun o q => Heap.get?_push_of_some _ q, fun _ => True.intro, fun y hy => absurd rfl hy⟩
theorem attr_of {prog : Program} {w : World} {env : Env} {e : Expr} {f : Str} {pos : Pos} {s : Shared} {Q : Value → Shared → Prop} (hb : attributeBase e f env (eval e env) = eval e env)
   (h : wpAny (model prog w) A (eval e env) (fun o s₁ => wpAny (model prog w) A (getAttr o f true) Q E s₁) E s) : wpAny (model prog w) A (eval (.Attribute e f pos) env) Q E s :=
 Attribute_any_ h (by rw [arm_eval_Attribute, hb])
end
def tFld (K : PySem.W.Frag) (ta : TE) (f : Str) : TE := fun σ H Q => ta σ H fun x H1 => ∃ a C dx fs v, x = .ref a ∧ H1 a = some (.ins C dx fs) ∧ Cls K C ∧ NoAttr K C f ∧ fs.lookup f = some v ∧ Q v H1
def sFld (K : PySem.W.Frag) (ta tv : TE) (f : Str) : TS := fun D σ H => tv σ H fun y H1 => ta σ H1 fun x H2 => ∃ a C dx fs, x = .ref a ∧ H2 a = some (.ins C dx fs) ∧ Cls K C ∧ NoAttr K C f ∧ fs.length < 1000 ∧
 D.nx σ (upd H2 a (.ins C dx (putF f y fs)))
section
variable {X : Cx} {o e value : Expr} {f : Str} {pos pos' tpos : Pos} {ta tv : TE}
theorem pe_fld (he : PE X e ta) (hb : attributeBase e f X.env (eval e X.env) = eval e X.env) : PE X (.Attribute e f pos) (tFld X.K ta f) := by
 intro pins s σ H Q I h
 refine attr_of hb (thn (he pins s σ H _ I h) fun u s1 ⟨x, H1, I1, rx, a, C, dx, fs, v, ex, ea, c, n, l, q⟩ => ?_)
 subst ex
 obtain rfl : u = Value.ref a := rx
 exact getattr_ok I1 ea c n l fun u' s2 I2 ru => ⟨v, H1, I2, ru, q⟩
theorem ps_fld (ha : PE X o ta) (hv : PE X value tv) (hs : swapsWith value (some (.Attribute o f pos')) pos.line X.env = pure false) : PS X (.Assign [.Attribute o f pos'] value pos) (sFld X.K ta tv f) := by
 intro pins s σ H D I h
 refine plainObj_wpAny_Assign_Attribute (thn (hv pins s σ H _ I h) fun u s1 ⟨y, H1, I1, ry, q⟩ => thn (ha pins s1 σ H1 _ I1 q) fun ov s2 ⟨x, H2, I2, rx, a, C, dx, fs, ex, ea, c, n, l, q2⟩ => ?_) hs
 subst ex
 obtain rfl : ov = Value.ref a := rx
 exact setattr_ok I2 ea c n l ry fun s3 I3 => ⟨σ, _, I3, q2⟩
end
section
variable {X : Cx} {pins : List (Addr × Obj)} {σ : St} {H : Hp} {s : Shared} {A : Around} {E : Value → Shared → Prop} {Q : Value → Shared → Prop} {c : Value} {b : Bool}
inductive TyOf (K : PySem.W.Frag) (H : Hp) : V → Value → Prop where
 | non : TyOf K H .non (.type "NoneType")
 | bl (x : Bool) : TyOf K H (.bl x) (.type "bool")
 | int (i : Int) : TyOf K H (.int i) (.type "int")
 | str (x : Str) : TyOf K H (.str x) (.type "str")
 | flt (x : UInt64) : TyOf K H (.flt x) (.type "float")
 | lst {a : Addr} {xs : List V} (e : H a = some (.lst xs)) : TyOf K H (.ref a) (.type "list")
 | frz {a : Addr} {o : Obj} {xs : List V} (e : H a = some (.frz o (.lst xs))) : TyOf K H (.ref a) (.type "list")
 | tup {a : Addr} {xs : List V} (e : H a = some (.tup xs)) : TyOf K H (.ref a) (.type "tuple")
 | dK {a : Addr} {kvs : List (Key × V)} (e : H a = some (.dK kvs)) : TyOf K H (.ref a) (.type "dict")
 | dT {a : Addr} {kvs : List (List Key × V)} (e : H a = some (.dT kvs)) : TyOf K H (.ref a) (.type "dict")
 | ins {a C dx : Addr} {fs : List (Str × V)} (e : H a = some (.ins C dx fs)) (cl : Cls K C) (ha : PySem.W.findIn K (.ref C) "__class__" = some (some (.builtin "object.__class__")))
     (hn : PySem.W.specialIn K (.builtin "object.__class__") "__get__" = some (some (.builtin "getset_descriptor.__get__"))) (htk : PySem.W.takesIn K (.builtin "object.__class__") = some true)
     (hm : PySem.W.mroIn K C (.type "object") = some true) : TyOf K H (.ref a) (.ref C)
theorem isinst_ok {x : V} {u t : Value} (I : Inv X pins σ H s) (rx : RelV x u) (ty : TyOf X.K H x t) (e : PySem.W.kitOne X.K t c = some b) (h : ∀ tk, Q (.bool b) { s with toks := tk }) :
   wpAny (model X.prog X.w) A (call (.builtin "isinstance") [u, c]) Q E s := by
 cases ty with
 | non => cases (show u = Value.none from rx); exact PySem.W.kia_one PySem.W.kitx_none I.kIn True.intro e (fun z => nomatch z) h
 | bl y => cases (show u = Value.bool y from rx); exact PySem.W.kia_one PySem.W.kitx_bool I.kIn True.intro e (fun z => nomatch z) h
 | int i => obtain ⟨t, q⟩ := (show ∃ t, u = Value.int i t from rx); cases q; exact PySem.W.kia_one PySem.W.kitx_int I.kIn True.intro e (fun z => nomatch z) h
 | str y => obtain ⟨t, q⟩ := (show ∃ t, u = Value.str y t from rx); cases q; exact PySem.W.kia_one PySem.W.kitx_str I.kIn True.intro e (fun z => nomatch z) h
 | flt y => obtain ⟨t, q⟩ := (show ∃ t, u = Value.float y t from rx); cases q; exact PySem.W.kia_one PySem.W.kitx_float I.kIn True.intro e (fun z => nomatch z) h
 | @lst a xs ea =>
   cases (show u = Value.ref a from rx)
   obtain ⟨_, _, n, _, h1⟩ := (show ObjOk X.prog X.w H s.heap a (.lst xs) from I.hok a _ ea)
   exact PySem.W.kia_one PySem.W.kitx_list I.kIn ⟨_, h1, rfl⟩ e (fun z => nomatch z) h
 | @frz a ob xs ea =>
   cases (show u = Value.ref a from rx)
   obtain ⟨_, _, _, n, _, h1⟩ := (show ObjOk X.prog X.w H s.heap a (.frz ob (.lst xs)) from I.hok a _ ea)
   exact PySem.W.kia_one PySem.W.kitx_list I.kIn ⟨_, h1, rfl⟩ e (fun z => nomatch z) h
 | @tup a xs ea =>
   cases (show u = Value.ref a from rx)
   obtain ⟨_, _, _, p⟩ := (show ObjOk X.prog X.w H s.heap a (.tup xs) from I.hok a _ ea)
   obtain ⟨o, h1, h2, _⟩ := p
   exact PySem.W.kia_one PySem.W.kitx_tuple I.kIn ⟨o, h1, h2⟩ e (fun z => nomatch z) h
 | @dK a kvs ea =>
   cases (show u = Value.ref a from rx)
   obtain ⟨_, _, vs, _, p⟩ := (show ObjOk X.prog X.w H s.heap a (.dK kvs) from I.hok a _ ea)
   obtain ⟨o, es, ep, h1, h2, _⟩ := p
   exact PySem.W.kia_one PySem.W.kitx_dict I.kIn ⟨o, h1, h2.1⟩ e (fun z => nomatch z) h
 | @dT a kvs ea =>
   cases (show u = Value.ref a from rx)
   obtain ⟨_, _, xs, _, o, es, ep, h1, h2, _⟩ := (show ObjOk X.prog X.w H s.heap a (.dT kvs) from I.hok a _ ea)
   exact PySem.W.kia_one PySem.W.kitx_dict I.kIn ⟨o, h1, h2.1⟩ e (fun z => nomatch z) h
 | @ins a C dx fs ea cl ha hn htk hm =>
   cases (show u = Value.ref a from rx)
   obtain ⟨mA, O, _⟩ := ins_get I.hok ea
   obtain ⟨od, J, _⟩ := O.look
   exact PySem.W.kia_one (PySem.W.kitx_own (cl.get _) cl.hd ha hn htk hm) I.kIn J e (fun z => nomatch z) h
end
end L2

namespace L2
open PySem PySem.Spec PyProof.Rows
structure Room (k : Nat) (A : Around) : Prop where
 hd : A.handled = none
 dp : A.depth + 3 * k + 5 < recursionLimit
 un : A.units + 16 * k + 200 < cLine
theorem Room.mono {j k : Nat} {A : Around} (r : Room k A) (h : j ≤ k) : Room j A := ⟨r.hd, by have := r.dp; omega, by have := r.un; omega⟩
theorem Room.deeper {k : Nat} {A : Around} (r : Room (k + 1) A) (env : Env) : Room k (A.deeper env) :=
 ⟨r.hd, by have := r.dp; show A.depth + 1 + 3 * k + 5 < _; omega, by have := r.un; show A.units + 3 + 16 * k + 200 < _; omega⟩
theorem Room.in1 {k : Nat} {A : Around} (r : Room (k + 1) A) : Room k A.in1 :=
 ⟨r.hd, by have := r.dp; show A.depth + 3 * k + 5 < _; omega, by have := r.un; show A.units + 1 + 16 * k + 200 < _; omega⟩
theorem make_depth {A : Around} {C : Addr} {us : List Value} {kw : List (Str × Value)} : (A.under (.builtin "type.__call__" ⟨.ref C :: us, kw⟩)).depth = A.depth + 1 := by
 first | rfl | simp [Around.under, Code.weight, Code.isCreation, Code.isGuard, Code.isCaller, Code.frames, Code.isFrame, guardIds]
theorem make_units {A : Around} {C : Addr} {us : List Value} {kw : List (Str × Value)} : (A.under (.builtin "type.__call__" ⟨.ref C :: us, kw⟩)).units = A.units + 1 := by
 first | rfl | simp [Around.under, Code.cUnits, Code.frames, Code.isFrame]
theorem Room.make {k : Nat} {A : Around} (r : Room (k + 1) A) (C : Addr) (us : List Value) (kw : List (Str × Value)) : Room k (A.under (.builtin "type.__call__" ⟨.ref C :: us, kw⟩)) :=
 ⟨r.hd, by have := r.dp; rw [make_depth]; omega, by have := r.un; rw [make_units]; omega⟩
theorem Room.depth {k : Nat} {A : Around} (r : Room k A) : A.depth < recursionLimit := by have := r.dp; omega
theorem Room.units {k : Nat} {A : Around} (r : Room k A) : A.units + 64 < cLine := by have := r.un; omega
theorem Room.units0 {k : Nat} {A : Around} (r : Room k A) : A.units < cLine := by have := r.un; omega
def tNil : TA := fun _ H Q => Q [] H
def tCons (ta : TE) (tr : TA) : TA := fun σ H Q => ta σ H fun x H1 => tr σ H1 fun xs H2 => Q (x :: xs) H2
section
variable {X : Cx} {e : Expr} {es : List Expr} {te : TE} {t : TA} {pos : Pos}
theorem pa_nil : PA X [] tNil := fun _ _ _ _ H Q I h => Calls.spliced_nil ⟨[], H, I, .nil, h⟩
theorem pa_cons (ha : PE X e te) (hr : PA X es t) (hs : starEach (e :: es) X.env = (false, eval e X.env) :: starEach es X.env := by rfl) : PA X (e :: es) (tCons te t) := by
 intro pos pins s σ H Q I h
 rw [hs]
 show wpAny _ _ (spliced ((false, eval e X.env) :: backTo pos (starEach es X.env))) _ _ s
 refine Calls.spliced_cons (thn (ha pins s σ H _ I h) fun u s1 ⟨x, H1, I1, r1, q1⟩ => ?_)
 exact thn (hr pos pins s1 σ H1 _ I1 q1) fun us s2 ⟨xs, H2, I2, r2, q2⟩ => ⟨x :: xs, H2, I2, .cons r1 r2, q2⟩
def tTup (t : TA) : TE := fun σ H Q => t σ H fun xs H1 => xs.length ≤ sizeLine ∧ ∀ p, H1 p = none → Q (.ref p) (upd H1 p (.tup xs))
def tLst (t : TA) : TE := fun σ H Q => t σ H fun xs H1 => xs.length ≤ sizeLine ∧ ∀ p, H1 p = none → Q (.ref p) (upd H1 p (.lst xs))
theorem pe_tup {x1} (h : PA X es t) : PE X (.Tuple es x1 pos) (tTup t) := by
 intro pins s σ H Q I hq
 refine wpAny_Tuple_spliced (thn (h pos pins s σ H _ I hq) fun us s1 ⟨xs, H1, I1, r, z, q⟩ => ⟨by rw [← r.length]; exact z, ?_⟩)
 have hf : H1 s1.heap.objs.size = none := I1.hok.fresh (Nat.le_refl _)
 refine ⟨.ref s1.heap.objs.size, upd H1 s1.heap.objs.size (.tup xs), I1.laid (t' := s1.toks) (fun b u e => Heap.get?_push_of_some _ e) (Nat.le_refl _) ?_, rfl, q _ hf⟩
 exact ⟨z, us, r, ⟨_, Heap.get?_push_size _ rfl, rfl, _, rfl⟩⟩
theorem pe_lst (h : PA X es t) : PE X (.List es pos) (tLst t) := by
 intro pins s σ H Q I hq
 refine wpAny_List_spliced (thn (h pos pins s σ H _ I hq) fun us s1 ⟨xs, H1, I1, r, z, q⟩ => ⟨by rw [← r.length]; exact z, ?_⟩)
 have hf : H1 s1.heap.objs.size = none := I1.hok.fresh (Nat.le_refl _)
 refine ⟨.ref s1.heap.objs.size, upd H1 s1.heap.objs.size (.lst xs), I1.laid (t' := s1.toks) (fun b u e => Heap.get?_push_of_some _ e) (Nat.le_refl _) ?_, rfl, q _ hf⟩
 exact ⟨z, us, 0, r, Heap.get?_push_size _ rfl⟩
end
abbrev Sp := List V → Hp → VK → XK → Prop
abbrev CXT := List Env → Hp → Shared → XK → Value → Shared → Prop
structure Env0 (P : Program) (w : World) (K : PySem.W.Frag) (mg : Str → Option Value) (base : Heap) (A : Around) (outer : List Env) (s : Shared) (H : Hp) : Prop where
 frames : A.frames = some outer
 mod : Mod K mg base
 bs : ∀ b o, base.get? b = some o → s.heap.get? b = some o ∧ H b = none
 bsz : base.objs.size ≤ s.heap.objs.size
 funs : s.heap.FunFrames base outer
 frf : ∀ b ∈ frs outer, H b = none
 hok : HOk P w H s.heap
 bare : AllBare s.gens
def CE (outer : List Env) (P : Program) (w : World) (H : Hp) (s : Shared) (Q : VK) (u : Value) (s' : Shared) : Prop :=
 ∃ v H', s'.os = s.os ∧ AllBare s'.gens ∧ Un (frs outer) [] H H' s.heap s'.heap ∧ HOk P w H' s'.heap ∧ RelV v u ∧ Q v H'
def CR (CX : CXT) (outer : List Env) (P : Program) (w : World) (H : Hp) (s : Shared) (Q : VK) (E : XK) (r : Result) (s' : Shared) : Prop :=
 match r with
 | .ok (.ret u) => CE outer P w H s Q u s'
 | .ok _ => False
 | .error e => CX outer H s E e s'
structure FnOk (P : Program) (w : World) (K : PySem.W.Frag) (mg : Str → Option Value) (base : Heap) (CX : CXT) (k : Nat) (f : Addr) (fd : FuncData) (ps : List Str) (sp : Sp) : Prop where
 len : ∀ vs H Q E, sp vs H Q E → vs.length = ps.length
 run : ∀ (A : Around) (outer : List Env) (s : Shared) (H : Hp) (args : Args) (us : List Value) (vs : List V) (Q : VK) (E : XK), Room k A → Env0 P w K mg base A outer s H → BindsTo s fd args (ps.zip us) → Vals vs us → sp vs H Q E →
   codeAny (model P w) A (.call (.ref f) args) (CR CX outer P w H s Q E) s
theorem FnOk.mono {P : Program} {w : World} {K : PySem.W.Frag} {mg : Str → Option Value} {base : Heap} {CX : CXT} {j k : Nat} {f : Addr} {fd : FuncData} {ps : List Str} {sp : Sp} (F : FnOk P w K mg base CX j f fd ps sp) (h : j ≤ k) :
 FnOk P w K mg base CX k f fd ps sp := ⟨F.len, fun A outer s H args us vs Q E hr => F.run A outer s H args us vs Q E (hr.mono h)⟩
theorem FnOk.imp {P : Program} {w : World} {K : PySem.W.Frag} {mg : Str → Option Value} {base : Heap} {CX : CXT} {k : Nat} {f : Addr} {fd : FuncData} {ps : List Str} {sp sp' : Sp} (F : FnOk P w K mg base CX k f fd ps sp)
   (h : ∀ vs H Q E, sp' vs H Q E → sp vs H Q E) : FnOk P w K mg base CX k f fd ps sp' :=
 ⟨fun vs H Q E q => F.len vs H Q E (h _ _ _ _ q), fun A outer s H args us vs Q E hr he hb hv hs => F.run A outer s H args us vs Q E hr he hb hv (h _ _ _ _ hs)⟩

theorem Env0.make {P : Program} {w : World} {K : PySem.W.Frag} {mg : Str → Option Value} {base : Heap} {A : Around} {outer : List Env} {s : Shared} {H : Hp} (e : Env0 P w K mg base A outer s H) (C : Addr) (us : List Value) (kw : List (Str × Value)) :
 Env0 P w K mg base (A.under (.builtin "type.__call__" ⟨.ref C :: us, kw⟩)) outer s H := ⟨by first | exact e.frames | (simpa [Around.under, Code.envs, Code.isFrame, pushEnvs] using e.frames), e.mod, e.bs, e.bsz, e.funs, e.frf, e.hok, e.bare⟩
theorem Env0.in1 {P : Program} {w : World} {K : PySem.W.Frag} {mg : Str → Option Value} {base : Heap} {A : Around} {outer : List Env} {s : Shared} {H : Hp} (e : Env0 P w K mg base A outer s H) :
 Env0 P w K mg base A.in1 outer s H := ⟨e.frames, e.mod, e.bs, e.bsz, e.funs, e.frf, e.hok, e.bare⟩

section
variable {X : Cx} {pins : List (Addr × Obj)} {σ : St} {H : Hp} {s s' : Shared}
theorem Inv.env0 (I : Inv X pins σ H s) : Env0 X.prog X.w X.K X.mg X.base X.A X.stack s H :=
 ⟨I.ok.frames, I.ok.mod, I.bs, Nat.le_trans I.ok.bsz I.sz, I.stack, I.stkFree, I.hok, I.bare⟩
theorem Inv.after {Q : VK} {u : Value} (I : Inv X pins σ H s) (h : CE X.stack X.prog X.w H s Q u s') : EP X pins σ Q u s' := by
 obtain ⟨v, H', os, bare, un, hok, r, q⟩ := h
 obtain ⟨hh, g, d, t, os'⟩ := s'
 obtain rfl : os' = s.os := os
 exact ⟨v, H', I.call (h' := hh) (g' := g) (d' := d) (t' := t) (ch := []) un hok bare (fun b z => absurd z (by simp)), r, q⟩
end
def tCall (sp : Sp) (dvs : List V) (E : XK) (t : TA) : TE := fun σ H Q => t σ H fun vs H1 => sp (vs ++ dvs) H1 Q E
def tMeth (C : Addr) (m : Str) (sp : Sp) (dvs : List V) (E : XK) (ta : TE) (t : TA) : TE := fun σ H Q => ta σ H fun x H1 => ∃ a dx fs, x = .ref a ∧ H1 a = some (.ins C dx fs) ∧ fs.lookup m = none ∧
 t σ H1 fun vs H2 => sp (x :: (vs ++ dvs)) H2 Q E
def tMake (C : Addr) (sp : Sp) (dvs : List V) (E : XK) (t : TA) : TE := fun σ H Q => t σ H fun vs H1 => ∀ x dx, H1 x = none → H1 dx = none → dx ≠ x →
 sp (.ref x :: (vs ++ dvs)) (upd (upd H1 dx (.own x)) x (.ins C dx [])) (fun v H2 => v = .non ∧ Q (.ref x) H2) E
def Binds (K : PySem.W.Frag) (fd : FuncData) (ps : List Str) (ds : List Value) : Prop :=
 ∀ (s : Shared) (us : List Value), K.In s.heap → (us ++ ds).length = ps.length → BindsTo s fd ⟨us, []⟩ (ps.zip (us ++ ds))
theorem Binds.all {K : PySem.W.Frag} {fd : FuncData} {ps : List Str} (h : ∀ us : List Value, us.length = ps.length → bindArgs fd ⟨us, []⟩ = pure (ps.zip us)) : Binds K fd ps [] := fun s us _ hl => by
 rw [List.append_nil] at hl ⊢
 exact .of_eq (h us hl)
def Passes (CX : CXT) (X : Cx) (E : XK) : Prop := ∀ (pins : List (Addr × Obj)) (σ : St) (H : Hp) (s : Shared) (e : Value) (s' : Shared), Inv X pins σ H s → CX X.stack H s E e s' → X.xe e s'

section
variable {X : Cx} {CX : CXT} {k : Nat} {f C : Addr} {fd : FuncData} {ps : List Str} {sp : Sp} {dvs : List V} {ds : List Value} {E : XK} {x m : Str} {p pos apos : Pos} {e o : Expr} {es : List Expr} {ta : TE} {t : TA}
theorem run_fn {pins : List (Addr × Obj)} {σ : St} {H : Hp} {s : Shared} {Q : VK} {us : List Value} {vs : List V} (F : FnOk X.prog X.w X.K X.mg X.base CX k f fd ps sp) (hr : Room k X.A) (hb : Binds X.K fd ps ds) (hd : Vals dvs ds) (hx : Passes CX X E)
   (I : Inv X pins σ H s) (r : Vals vs us) (h : sp (vs ++ dvs) H Q E) : wpAny (model X.prog X.w) X.A (call (.ref f) us) (EP X pins σ Q) X.xe s := by
 have r2 : Vals (vs ++ dvs) (us ++ ds) := r.append hd
 have hl : (us ++ ds).length = ps.length := by rw [← r2.length]; exact F.len _ _ _ _ h
 refine wpAny_call (codeAny_mono (F.run X.A X.stack s H ⟨us, []⟩ (us ++ ds) (vs ++ dvs) Q E hr I.env0 (hb s us I.kIn hl) r2 h) fun r s' hq => ?_)
 cases r with
 | error e => exact hx pins σ H s e s' I hq
 | ok fl =>
   cases fl with
   | ret u => exact I.after hq
   | next => exact False.elim hq
   | brk => exact False.elim hq
   | cont => exact False.elim hq

theorem pe_call (F : FnOk X.prog X.w X.K X.mg X.base CX k f fd ps sp) (hr : Room k X.A) (hg : Gl X x) (hm : X.mg x = some (.ref f)) (hk : PySem.W.keepIn X.K (.ref f) = true) (hb : Binds X.K fd ps ds) (hd : Vals dvs ds) (hx : Passes CX X E)
   (ha : PA X (e :: es) t) (hdb : (x == ("__debug__" : Str)) = false := by decide) (he : starEach (e :: es) X.env = (false, eval e X.env) :: starEach es X.env := by rfl) (hpl : (backTo pos (starEach es X.env)).any (·.1) = false := by rfl) :
   PE X (.Call (.Name x p) (e :: es) [] pos) (tCall sp dvs E t) := by
 intro pins s σ H Q I h
 refine wpAny_Call_Name_kw (ld_glob I hg hm ?_ hdb)
 refine PySem.W.callWith_K (h₀ := X.base) I.ok.mod.kin hk (thn (ha pos pins s σ H _ I h) fun us s1 ⟨vs, H1, I1, r, q⟩ => ⟨I1.kIn, ?_⟩) he hpl
 exact run_fn F hr hb hd hx I1 r q
theorem pe_meth {pl : Sem Bool} (he : PE X o ta) (c : Cls X.K C) (hm : Meth X.K C m f) (F : FnOk X.prog X.w X.K X.mg X.base CX k f fd ps sp) (hr : Room k X.A) (hb : Binds X.K fd ps ds) (hd : Vals dvs ds) (hx : Passes CX X E) (ha : PA X (e :: es) t)
   (hst : starEach (e :: es) X.env = (false, eval e X.env) :: starEach es X.env := by rfl) (hpl : (backTo pos (starEach es X.env)).any (·.1) = false := by rfl)
   (ht : eval (.Call (.Attribute o m apos) (e :: es) [] pos) X.env = (do
     let ov ← eval o X.env
     standAt apos.atName
     let (f, first) ← holding [ov] (getMethod ov m pl)
     callWith pos f first (backTo pos (starEach (e :: es) X.env)) (backToKw pos (keywordEach [] X.env))) := by rfl) :
   PE X (.Call (.Attribute o m apos) (e :: es) [] pos) (tMeth C m sp dvs E ta t) := by
 intro pins s σ H Q I h
 refine PySem.W.methodCall_KW (pl := pl) (thn (he pins s σ H _ I h) fun u s1 ⟨x, H1, I1, rx, a, dx, fs, ex, ea, l, q⟩ => ?_) ht
 subst ex
 obtain rfl : u = Value.ref a := rx
 refine getmeth_ok I1 ea c hm l ?_
 refine PySem.W.callWith_K (first := [.ref a]) (h₀ := X.base) I.ok.mod.kin hm.kp (thn (ha pos pins s1 σ H1 _ I1 q) fun us s2 ⟨vs, H2, I2, r, q2⟩ => ⟨I2.kIn, ?_⟩) hst hpl
 exact run_fn (us := .ref a :: us) (vs := .ref a :: vs) F hr hb hd hx I2 (.cons rfl r) q2
theorem pe_meth0 {pl : Sem Bool} (he : PE X o ta) (c : Cls X.K C) (hm : Meth X.K C m f) (F : FnOk X.prog X.w X.K X.mg X.base CX k f fd ps sp) (hr : Room k X.A) (hb : Binds X.K fd ps ds) (hd : Vals dvs ds) (hx : Passes CX X E)
   (ht : eval (.Call (.Attribute o m apos) [] [] pos) X.env = (do
     let ov ← eval o X.env
     standAt apos.atName
     let (f, first) ← holding [ov] (getMethod ov m pl)
     callWith pos f first (backTo pos (starEach [] X.env)) (backToKw pos (keywordEach [] X.env))) := by rfl) :
   PE X (.Call (.Attribute o m apos) [] [] pos) (tMeth C m sp dvs E ta tNil) := by
 intro pins s σ H Q I h
 refine PySem.W.methodCall_KW (pl := pl) (thn (he pins s σ H _ I h) fun u s1 ⟨x, H1, I1, rx, a, dx, fs, ex, ea, l, q⟩ => ?_) ht
 subst ex
 obtain rfl : u = Value.ref a := rx
 refine getmeth_ok I1 ea c hm l ?_
 exact PySem.W.callWith_K0 (first := [.ref a]) I1.kIn hm.kp (run_fn (us := [.ref a]) (vs := [.ref a]) F hr hb hd hx I1 (.cons rfl .nil) q)
structure Mk (K : PySem.W.Frag) (C f : Addr) : Prop where
 makes : PySem.W.makesIn K C = true
 init : PySem.W.findIn K (.ref C) "__init__" = some (some (.ref f))
 fn : PySem.W.isFn K (.ref f) = true
 kp : PySem.W.keepIn K (.ref C) = true

theorem run_make {pins : List (Addr × Obj)} {σ : St} {H : Hp} {s : Shared} {Q : VK} {us : List Value} {vs : List V} (M : Mk X.K C f) (F : FnOk X.prog X.w X.K X.mg X.base CX k f fd ps sp) (hr : Room (k + 1) X.A) (hb : Binds X.K fd ps ds) (hd : Vals dvs ds)
   (hx : Passes CX X E) (I : Inv X pins σ H s) (r : Vals vs us)
   (h : ∀ x dx, H x = none → H dx = none → dx ≠ x → sp (.ref x :: (vs ++ dvs)) (upd (upd H dx (.own x)) x (.ins C dx [])) (fun v H2 => v = .non ∧ Q (.ref x) H2) E) :
   wpAny (model X.prog X.w) X.A (call (.ref C) us) (EP X pins σ Q) X.xe s := by
 have hq := h (s.heap.objs.size + 1) s.heap.objs.size (I.hok.fresh (Nat.le_succ _)) (I.hok.fresh (Nat.le_refl _)) (Nat.ne_of_lt (Nat.lt_succ_self _))
 have I2 := Inv.made (C := C) I
 have r2 : Vals (V.ref (s.heap.objs.size + 1) :: (vs ++ dvs)) (Value.ref (s.heap.objs.size + 1) :: (us ++ ds)) := .cons rfl (r.append hd)
 have hl : (Value.ref (s.heap.objs.size + 1) :: us ++ ds).length = ps.length := by
   have e := r2.length
   rw [F.len _ _ _ _ hq] at e
   exact e.symm
 refine wpAny_call (make_map (f := f) I.kIn M.makes M.init (beq_iff_eq.mp M.fn) (codeAny_mono (F.run _ X.stack _ _ ⟨Value.ref (s.heap.objs.size + 1) :: us, []⟩ (Value.ref (s.heap.objs.size + 1) :: (us ++ ds)) _ _ E (hr.make C us [])
   (I2.env0.make C us []) (hb _ (Value.ref (s.heap.objs.size + 1) :: us) I2.kIn hl) r2 hq) fun r s' hq' => ?_))
 cases r with
 | error e => exact hx pins σ _ _ e s' I2 hq'
 | ok fl =>
   cases fl with
   | ret u =>
     obtain ⟨v, H', I3, rv, ev, q3⟩ := I2.after hq'
     subst ev
     exact ⟨rv, ⟨V.ref (s.heap.objs.size + 1), H', I3, rfl, q3⟩⟩
   | next => exact False.elim hq'
   | brk => exact False.elim hq'
   | cont => exact False.elim hq'
theorem pe_make (M : Mk X.K C f) (F : FnOk X.prog X.w X.K X.mg X.base CX k f fd ps sp) (hr : Room (k + 1) X.A) (hg : Gl X x) (hm : X.mg x = some (.ref C)) (hb : Binds X.K fd ps ds) (hd : Vals dvs ds) (hx : Passes CX X E)
   (ha : PA X (e :: es) t) (hdb : (x == ("__debug__" : Str)) = false := by decide) (he : starEach (e :: es) X.env = (false, eval e X.env) :: starEach es X.env := by rfl) (hpl : (backTo pos (starEach es X.env)).any (·.1) = false := by rfl) :
   PE X (.Call (.Name x p) (e :: es) [] pos) (tMake C sp dvs E t) := by
 intro pins s σ H Q I h
 refine wpAny_Call_Name_kw (ld_glob I hg hm ?_ hdb)
 refine PySem.W.callWith_K (h₀ := X.base) I.ok.mod.kin M.kp (thn (ha pos pins s σ H _ I h) fun us s1 ⟨vs, H1, I1, r, q⟩ => ⟨I1.kIn, ?_⟩) he hpl
 exact run_make M F hr hb hd hx I1 r q
end
section
variable {X : Cx} {CX : CXT} {k : Nat} {f C : Addr} {fd : FuncData} {ps ks : List Str} {sp : Sp} {E : XK} {x m : Str} {p pos apos kpos : Pos} {e o : Expr} {es : List Expr} {kws : List Keyword} {te ta : TE} {t tk : TA} {nm : Option Str}
variable {g : List Value → List Value → List Value} {gV : List V → List V → List V}
end
structure FnScope (N P : List Str) (sc : Scope) : Prop where
 kind : sc.kind = .function
 co : sc.isCoroutine = false
 gen : sc.isGenerator = false
 nd : N.Nodup
 pre : N.take P.length = P
 par : ∀ x ∈ P, sc.names.lookup x = some .local ∨ sc.names.lookup x = some .cell
 nofree : ∀ y ∈ sc.names, y.2 ≠ .free

theorem bindL_out {kindOf : Str → Option NameKind} {x : Str} : ∀ {binds : List (Str × Value)} {m : Str → Option Value}, (∀ v, (x, v) ∉ binds) → bindL kindOf binds m x = m x
 | [], _, _ => rfl
 | (n, v) :: r, m, h => by
   unfold bindL
   rw [bindL_out fun w hw => h w (List.mem_cons_of_mem _ hw)]
   split
   · have : x ≠ n := by rintro rfl; exact h v List.mem_cons_self
     simp [this]
   · rfl
theorem bindC_out {kindOf : Str → Option NameKind} {x : Str} : ∀ {binds : List (Str × Value)} {m : Str → Option Value}, (∀ v, (x, v) ∉ binds) → bindC kindOf binds m x = m x
 | [], _, _ => rfl
 | (n, v) :: r, m, h => by
   unfold bindC
   rw [bindC_out fun w hw => h w (List.mem_cons_of_mem _ hw)]
   split
   · rfl
   · have : x ≠ n := by rintro rfl; exact h v List.mem_cons_self
     simp [this]
theorem bindL_get {kindOf : Str → Option NameKind} {x : Str} {v : Value} : ∀ {P : List Str} {vs : List Value} {i : Nat} {m : Str → Option Value}, P.Nodup → P[i]? = some x → vs[i]? = some v → kindOf x = some .local →
   bindL kindOf (P.zip vs) m x = some v
 | [], _, _, _, _, h, _, _ => by simp at h
 | _ :: _, [], _, _, _, _, h, _ => by simp at h
 | p :: P, w :: vs, 0, m, nd, h1, h2, hk => by
   simp at h1 h2; subst h1; subst h2
   show bindL kindOf ((p, w) :: P.zip vs) m p = _
   unfold bindL
   rw [bindL_out fun v hv => (List.nodup_cons.mp nd).1 (List.of_mem_zip hv).1, if_pos hk]
   simp
 | p :: P, w :: vs, i + 1, m, nd, h1, h2, hk => by
   show bindL kindOf ((p, w) :: P.zip vs) m x = _
   unfold bindL
   exact bindL_get (i := i) (List.nodup_cons.mp nd).2 (by simpa using h1) (by simpa using h2) hk
theorem bindC_get {kindOf : Str → Option NameKind} {x : Str} {v : Value} : ∀ {P : List Str} {vs : List Value} {i : Nat} {m : Str → Option Value}, P.Nodup → P[i]? = some x → vs[i]? = some v → kindOf x ≠ some .local →
   bindC kindOf (P.zip vs) m x = some v
 | [], _, _, _, _, h, _, _ => by simp at h
 | _ :: _, [], _, _, _, _, h, _ => by simp at h
 | p :: P, w :: vs, 0, m, nd, h1, h2, hk => by
   simp at h1 h2; subst h1; subst h2
   show bindC kindOf ((p, w) :: P.zip vs) m p = _
   unfold bindC
   rw [bindC_out fun v hv => (List.nodup_cons.mp nd).1 (List.of_mem_zip hv).1, if_neg hk]
   simp
 | p :: P, w :: vs, i + 1, m, nd, h1, h2, hk => by
   show bindC kindOf ((p, w) :: P.zip vs) m x = _
   unfold bindC
   exact bindC_get (i := i) (List.nodup_cons.mp nd).2 (by simpa using h1) (by simpa using h2) hk
def start (N : List Str) (vs : List V) : St := vs.map some ++ List.replicate (N.length - vs.length) none
def cxOf (CX : CXT) (P : Program) (w : World) (K : PySem.W.Frag) (mg : Str → Option Value) (base : Heap) (N : List Str) (qual : Str) (scope : Scope) (f : Addr) (cd : Value) (A : Around) (outer : List Env) (s : Shared) (H : Hp) (E : XK) : Cx where
 prog := P
 w := w
 K := K
 mg := mg
 base := base
 A := A.deeper (envOfC qual scope s.heap.objs.size f cd)
 N := N
 s₀ := s
 H₀ := H
 env := envOfC qual scope s.heap.objs.size f cd
 outer := outer
 stack := envOfC qual scope s.heap.objs.size f cd :: outer
 ex := []
 calm := true
 fn := fun _ => true
 pn := []
 xe := fun e s' => wpAny (model P w) (A.deeper (envOfC qual scope s.heap.objs.size f cd)) (leaving (envOfC qual scope s.heap.objs.size f cd) e) (fun _ s'' => CX outer H s E e s'') (fun e' s'' => CX outer H s E e' s'') s'

theorem cell_has {sc : Scope} {n : Nat} {x : Str} (h : sc.names.lookup x = some .cell) : ∃ c, (cellsFrom n sc.names []).lookup x = some c := by
 have q := PySem.W.cellsFrom_some sc.names n [] (.inl h)
 exact Option.isSome_iff_exists.mp q

theorem inv_start {CX : CXT} {P : Program} {w : World} {K : PySem.W.Frag} {mg : Str → Option Value} {base : Heap} {N ps : List Str} {qual : Str} {scope : Scope} {f : Addr} {cd : Value} {A : Around} {outer : List Env} {s s1 : Shared} {H : Hp} {E : XK} {us : List Value} {vs : List V}
   (S : FnScope N ps scope) (hd : A.handled = none) (e0 : Env0 P w K mg base A outer s H) (hl : vs.length = ps.length) (r : Vals vs us)
   (x : InCallC s s.heap.objs.size (bindL (envOfC qual scope s.heap.objs.size f cd).kindOf (ps.zip us) fun _ => none) (cellsFrom (s.heap.objs.size + 1) scope.names []) (bindC (envOfC qual scope s.heap.objs.size f cd).kindOf (ps.zip us) fun _ => none) s1) :
   Inv (cxOf CX P w K mg base N qual scope f cd A outer s H E) [] (start N vs) H s1 := by
 have hpl : ps.length ≤ N.length := by have := congrArg List.length S.pre; rw [List.length_take] at this; omega
 obtain ⟨h1, tk, rfl, hk⟩ := x.done
 have noA : ∀ b : Addr, b ∉ (cxOf CX P w K mg base N qual scope f cd A outer s H E).ex := fun b z => absurd (show b ∈ ([] : List Addr) from z) (by simp)
 refine ⟨⟨e0.mod, S.kind, rfl, rfl, Nat.le_refl _, fun y z c h1 h2 => ?_, fun y hy => ?_, fun y c _ h => ?_, fun _ => hd, Around.frames_deeper e0.frames, .inr ⟨rfl, rfl⟩, fun b z => absurd z (noA b), e0.bs, e0.bsz, fun b _ _ => noA b, fun b z => absurd z (noA b), e0.funs, e0.frf⟩,
   rfl, e0.bare, Un.kept hk, ⟨_, x.toInCall.ns, fun i y v h1 h2 h3 => ?_⟩, fun y c h => ⟨_, x.cell y c h⟩, e0.hok.fresh (Nat.le_refl _), fun y c h => ?_, fun p hp => absurd (show p ∈ ([] : List (Addr × Obj)) from hp) (by simp), e0.hok.kept hk, ?_⟩
 · exact name_of_addr x.apart (PySem.mem_of_lookup h1) (PySem.mem_of_lookup h2)
 · have hy : scope.names.lookup y = some .cell ∨ scope.names.lookup y = some .free := hy
   rcases hy with hy | hy
   · exact cell_has hy
   · exact absurd rfl (S.nofree _ (PySem.mem_of_lookup hy))
 · exact Nat.le_of_lt (x.above y c (PySem.mem_of_lookup h))
 · have hi : i < vs.length := by
     unfold start at h2
     by_cases hi : i < vs.length
     · exact hi
     · rw [List.getElem?_append_right (by simpa using hi)] at h2
       rw [List.getElem?_replicate] at h2
       split at h2 <;> cases h2
   have ha : vs[i]? = some v := by
     unfold start at h2
     rw [List.getElem?_append_left (by simpa using hi), List.getElem?_map] at h2
     cases e : vs[i]? with
     | none => rw [e] at h2; cases h2
     | some a => rw [e] at h2; cases h2; rfl
   obtain ⟨u, hu, rv⟩ := r.get ha
   have hp : ps[i]? = some y := by
     rw [← S.pre, List.getElem?_take_of_lt (by omega)]; exact h1
   have ndP : ps.Nodup := by rw [← S.pre]; exact S.nd.sublist (List.take_sublist _ _)
   refine ⟨u, rv, ?_⟩
   rcases S.par y (List.mem_of_getElem? hp) with k | k
   · exact .inl ⟨k, bindL_get ndP hp hu k⟩
   · obtain ⟨c, e⟩ := cell_has (n := s.heap.objs.size + 1) k
     refine .inr ⟨.inl k, c, e, ?_⟩
     have q := x.cell y c e
     rw [bindC_get ndP hp hu (by show scope.names.lookup y ≠ _; rw [k]; decide)] at q
     exact q
 · exact e0.hok.fresh (Nat.le_of_lt (x.above y c (PySem.mem_of_lookup h)))
 · unfold start
   show _ = N.length
   rw [List.length_append, List.length_map, List.length_replicate]
   omega
theorem fn_of {CX : CXT} {P : Program} {w : World} {K : PySem.W.Frag} {mg : Str → Option Value} {base : Heap} {k : Nat} {f : Addr} {name qual : Str} {params : Arguments} {body : List Stmt} {scope : Scope} {dV kV doc pm cdv ct oc : Value} {an od : Option Addr}
   {osl : Array (Option Value)} {N ps : List Str} {sp : Sp} (lk : K.lookup f = some ⟨oc, od, .func (PySem.W.fnOf name qual params body scope dV kV doc pm an cdv ct), osl⟩) (hcd : PySem.W.codeIn K cdv qual = true) (S : FnScope N ps scope)
   (len : ∀ vs H Q E, sp vs H Q E → vs.length = ps.length)
   (hbody : ∀ (A : Around) (outer : List Env) (s : Shared) (H : Hp) (vs : List V) (Q : VK) (E : XK), Room k (A.deeper (envOfC qual scope s.heap.objs.size f cdv)) → sp vs H Q E →
     ∃ t, PSs (cxOf CX P w K mg base N qual scope f cdv A outer s H E) body t ∧ t { nx := fun _ H' => Q .non H', rt := Q } (start N vs) H) :
   FnOk P w K mg base CX (k + 1) f (PySem.W.fnOf name qual params body scope dV kV doc pm an cdv ct) ps sp := by
 refine ⟨len, fun A outer s H args us vs Q E hr e0 hb r hsp => ?_⟩
 have hl := len _ _ _ _ hsp
 have KX : K.In s.heap := e0.mod.kin.keeps fun b o e => (e0.bs b o e).1
 have lim : s.heap.NoLimit := e0.mod.nolimit.keeps fun b o e => (e0.bs b o e).1
 have hkind : ∀ y ∈ ps.zip us, scope.names.lookup y.1 = some .local ∨ (scope.names.lookup y.1 = some .cell ∧ ((cellsFrom (s.heap.objs.size + 1) scope.names []).lookup y.1).isSome = true) := fun ⟨n, v⟩ hy => by
   rcases S.par n (List.of_mem_zip hy).1 with q | q
   · exact .inl q
   · exact .inr ⟨q, PySem.W.cellsFrom_some _ _ _ (.inl q)⟩
 refine codeAny_call_function hr.depth (KX _ _ lk) rfl S.co S.gen rfl (PySem.W.codeRec_of KX hcd) (hb _ _ _ _ ?_)
 refine wpAny_newFunctionEnv_cells S.kind hkind fun env he s1 x => ?_
 subst he
 refine ⟨lim.keeps x.toInCall.keep, codeAny_func ?_⟩
 obtain ⟨t, ht, hq⟩ := hbody A outer s H vs Q E (hr.deeper _) hsp
 have I : Inv (cxOf CX P w K mg base N qual scope f cdv A outer s H E) [] (start N vs) H s1 := inv_start S hr.hd e0 hl r x
 refine wpAny_mono (ht [] s1 (start N vs) H _ I hq) (fun fl s' hs => ?_) fun e s' hs => hs
 have fin : ∀ {σ' : St} {H' : Hp} {v : V} {u : Value}, Inv (cxOf CX P w K mg base N qual scope f cdv A outer s H E) [] σ' H' s' → RelV v u → Q v H' → CE outer P w H s Q u s' :=
   fun {σ' H' v u} J rv q => ⟨v, H', J.os, J.bare, J.base, J.hok, rv, q⟩
 cases fl with
 | ret u =>
   obtain ⟨v, σ', H', J, rv, q⟩ := hs
   exact fin J rv q
 | next =>
   obtain ⟨σ', H', J, q⟩ := hs
   exact fin (v := V.non) (u := Value.none) J rfl q
 | brk =>
   obtain ⟨_, _, _, q⟩ := hs
   exact False.elim q
 | cont =>
   obtain ⟨_, _, _, q⟩ := hs
   exact False.elim q
end L2

namespace L2
open PySem PySem.Spec PyProof.Rows
section
variable {X : Cx} {x : Str} {p pos : Pos} {e : Expr} {es : List Expr} {t : TA} {id T : String} {r : List V → Hp → VK → Prop}

def tCB (r : List V → Hp → VK → Prop) (t : TA) : TE := fun σ H Q => t σ H fun vs H1 => r vs H1 Q
theorem pe_callB (hc : CallR X (.builtin id) r) (hg : Gl X x) (hm : X.mg x = none) (hv : bootBuiltins x = some (.builtin id)) (ha : PA X (e :: es) t) (hn : x ≠ "__name__" := by decide) (hdb : (x == ("__debug__" : Str)) = false := by decide)
   (he : starEach (e :: es) X.env = (false, eval e X.env) :: starEach es X.env := by rfl) (hpl : (backTo pos (starEach es X.env)).any (·.1) = false := by rfl) : PE X (.Call (.Name x p) (e :: es) [] pos) (tCB r t) := by
 intro pins s σ H Q I h
 refine wpAny_Call_Name_kw (ld_blt I hg hm hv ?_ hn hdb)
 exact PyProof.Rows.callWith_builtin1 (thn (ha pos pins s σ H _ I h) fun us s1 ⟨vs, H1, I1, r1, q1⟩ => hc pins s1 σ H1 vs us Q I1 r1 q1) he hpl
theorem pe_callTy (hc : CallR X (.type T) r) (hg : Gl X x) (hm : X.mg x = none) (hv : bootBuiltins x = some (.type T)) (ha : PA X (e :: es) t) (hn : x ≠ "__name__" := by decide) (hdb : (x == ("__debug__" : Str)) = false := by decide)
   (he : starEach (e :: es) X.env = (false, eval e X.env) :: starEach es X.env := by rfl) (hpl : (backTo pos (starEach es X.env)).any (·.1) = false := by rfl) : PE X (.Call (.Name x p) (e :: es) [] pos) (tCB r t) := by
 intro pins s σ H Q I h
 refine wpAny_Call_Name_kw (ld_blt I hg hm hv ?_ hn hdb)
 exact PyProof.Rows.callWith_type1 (thn (ha pos pins s σ H _ I h) fun us s1 ⟨vs, H1, I1, r1, q1⟩ => hc pins s1 σ H1 vs us Q I1 r1 q1) he hpl
end
end L2

namespace HT
open PySem PyProof.Rows
section
open PySem.SeqAt
open PySem.AutoSeq1 (wpAny_loadPart')
open PySem.MeetsSeq PySem.MeetsSeq2 PySem.MeetsSeq3

end

section
variable {prog : Program} {w : World} {A : Around} {E : Value → Shared → Prop} {s : Shared}

def sIx (n d : Nat) : Option Int → Nat
 | none => d
 | some v => if v < 0 then (v + (n : Int)).toNat else min v.toNat n
end
end HT

namespace L2
open PySem PySem.Spec PyProof.Rows
abbrev TO := St → Hp → (Option Int → Hp → Prop) → Prop
def PO (X : Cx) (e : Option Expr) (t : TO) : Prop :=
 ∀ (pins : List (Addr × Obj)) (s : Shared) (σ : St) (H : Hp) (Q : Option Int → Hp → Prop), Inv X pins σ H s → t σ H Q →
   wpAny (model X.prog X.w) X.A (evalPart e X.env) (fun u s' => ∃ o H', Inv X pins σ H' s' ∧ IsPart u o ∧ Q o H') X.xe s
def tNoPart : TO := fun _ H Q => Q none H
def tPart (t : TE) : TO := fun σ H Q => t σ H fun x H1 => ∃ i, x = .int i ∧ Q (some i) H1

section
variable {X : Cx} {e : Expr} {te : TE} {lo hi : Option Expr} {tl th : TO} {pos p2 : Pos}

theorem po_none : PO X none tNoPart := by
 intro pins s σ H Q I h
 rw [evalPart_none]
 exact wpAny_pure ⟨none, H, I, .none, h⟩
theorem po_some (h : PE X e te) : PO X (some e) (tPart te) := by
 intro pins s σ H Q I hw
 rw [evalPart_some]
 refine thn (h pins s σ H _ I hw) fun u s1 ⟨x, H1, I1, r1, q1⟩ => ?_
 obtain ⟨i, rfl, q⟩ := q1
 obtain ⟨t, rfl⟩ := r1
 exact ⟨some i, H1, I1, .int i t, q⟩
def SlR (X : Cx) (r : V → Option Int → Option Int → Hp → VK → Prop) : Prop :=
 ∀ (pins : List (Addr × Obj)) (s : Shared) (σ : St) (H : Hp) (x : V) (v vl vu : Value) (lo hi : Option Int) (sl : Addr) (Q : VK), Inv X pins σ H s → RelV x v → s.heap.IsSliceOf sl vl vu .none → IsPart vl lo → IsPart vu hi → r x lo hi H Q →
   ∃ T id, typeLookup (.type T) "__getitem__" = pure (some (.builtin id)) ∧ s.TypeIs v T ∧ wpAny (model X.prog X.w) X.A (getItem v (.ref sl)) (EP X pins σ Q) X.xe s
theorem SlR.or {r r' : V → Option Int → Option Int → Hp → VK → Prop} (h : SlR X r) (h' : SlR X r') : SlR X (fun x lo hi H Q => r x lo hi H Q ∨ r' x lo hi H Q) := by
 intro pins s σ H x v vl vu lo hi sl Q I rx hs pl pu q
 rcases q with q | q
 · exact h pins s σ H x v vl vu lo hi sl Q I rx hs pl pu q
 · exact h' pins s σ H x v vl vu lo hi sl Q I rx hs pl pu q
def tSl (r : V → Option Int → Option Int → Hp → VK → Prop) (te : TE) (tl th : TO) : TE := fun σ H Q => te σ H fun x H1 => tl σ H1 fun l H2 => th σ H2 fun u H3 => r x l u H3 Q
theorem pe_slice {r : V → Option Int → Option Int → Hp → VK → Prop} (hr : SlR X r) (he : PE X e te) (hl : PO X lo tl) (hu : PO X hi th) : PE X (.Subscript e (.Slice lo hi none p2) pos) (tSl r te tl th) := by
 intro pins s σ H Q I h
 refine Subscript_ (thn (he pins s σ H _ I h) fun v s1 ⟨x, H1, I1, r1, q1⟩ => ?_)
 refine wpAny_Slice (thn (hl pins s1 σ H1 _ I1 q1) fun vl s2 ⟨l, H2, I2, pl, q2⟩ => thn (hu pins s2 σ H2 _ I2 q2) fun vu s3 ⟨u, H3, I3, pu, q3⟩ => ?_)
 rw [evalPart_none]
 refine wpAny_pure ?_
 have I4 : Inv X pins σ H3 { s3 with heap := s3.heap.push { cls := .type "slice", data := .fields #[vl, vu, .none] } } := I3.kept (t' := s3.toks) fun b ob q => Heap.get?_push_of_some _ q
 obtain ⟨T, id, hT, ht, hg⟩ := hr pins { s3 with heap := s3.heap.push { cls := .type "slice", data := .fields #[vl, vu, .none] } } σ H3 x v vl vu l u s3.heap.objs.size Q I4 r1 (Heap.IsSliceOf.new ..) pl pu q3
 show wpAny (model X.prog X.w) X.A (subscriptTail e (.Slice lo hi none p2) v (.ref s3.heap.objs.size)) (EP X pins σ Q) X.xe { s3 with heap := s3.heap.push { cls := .type "slice", data := .fields #[vl, vu, .none] } }
 exact tail_any (ops := [.ref s3.heap.objs.size, v]) ht hT hg (by with_unfolding_all rfl)
def cutV (xs : List V) (lo hi : Option Int) : List V := (xs.drop (HT.sIx xs.length 0 lo)).take (HT.sIx xs.length xs.length hi - HT.sIx xs.length 0 lo)
theorem cutV_length (xs : List V) (lo hi : Option Int) : (cutV xs lo hi).length ≤ xs.length := by
 unfold cutV
 rw [List.length_take, List.length_drop]
 omega
end
end L2

namespace L2
open PySem PySem.Spec PyProof.Rows
def ixN (n : Nat) (i : Int) : Option Nat := if 0 ≤ i then (if i < n then some i.toNat else none) else if -(n : Int) ≤ i then some (i + n).toNat else none
def atI {α : Type} (xs : List α) (i : Int) : Option α := (ixN xs.length i).bind fun j => xs[j]?
theorem ixN_seq {n : Nat} {i : Int} {j : Nat} (h : ixN n i = some j) : seqIndex? i n = some j ∧ j < n ∧ -(n : Int) ≤ i ∧ i < n := by
 unfold ixN at h
 by_cases h0 : 0 ≤ i
 · rw [if_pos h0] at h
   by_cases h1 : i < n
   · rw [if_pos h1] at h
     have e : i.toNat = j := Option.some.inj h
     exact ⟨by rw [seqIndex_of h0 h1, e], by omega, by omega, h1⟩
   · rw [if_neg h1] at h; cases h
 · rw [if_neg h0] at h
   by_cases h1 : -(n : Int) ≤ i
   · rw [if_pos h1] at h
     have e : (i + n).toNat = j := Option.some.inj h
     exact ⟨by rw [seqIndex_neg (by omega) h1, e], by omega, h1, by omega⟩
   · rw [if_neg h1] at h; cases h
theorem atI_get {α : Type} {xs : List α} {i : Int} {v : α} (h : atI xs i = some v) : ∃ j, seqIndex? i xs.length = some j ∧ xs[j]? = some v ∧ j < xs.length ∧ -(xs.length : Int) ≤ i ∧ i < xs.length := by
 unfold atI at h
 cases e : ixN xs.length i with
 | none => rw [e] at h; cases h
 | some j =>
   rw [e] at h
   obtain ⟨h1, h2, h3, h4⟩ := ixN_seq e
   exact ⟨j, h1, h, h2, h3, h4⟩
theorem atI_nat {α : Type} {xs : List α} {j : Nat} {v : α} (h : xs[j]? = some v) : atI xs (j : Int) = some v := by
 have hj : j < xs.length := (List.getElem?_eq_some_iff.mp h).1
 have e : ixN xs.length (j : Int) = some j := by
   unfold ixN
   rw [if_pos (by omega), if_pos (by omega)]; simp
 unfold atI; rw [e]; exact h
def PlainIx (b : Expr) : Prop := ∀ o i, subscripted b false o i = operate [o, i] (getItem o i)
def IxR (X : Cx) (r : R2) : Prop :=
 ∀ (value slice : Expr) (pins : List (Addr × Obj)) (s : Shared) (σ : St) (H : Hp) (x y : V) (v u : Value) (Q : VK), Inv X pins σ H s → RelV x v → RelV y u → r x y H Q →
   subscripted slice false v u = operate [v, u] (getItem v u) → wpAny (model X.prog X.w) X.A (subscriptTail value slice v u) (EP X pins σ Q) X.xe s
def MtR (X : Cx) (id : String) (r : V → List V → Hp → VK → Prop) : Prop :=
 ∀ (pins : List (Addr × Obj)) (s : Shared) (σ : St) (H : Hp) (x : V) (xs : List V) (v : Value) (us : List Value) (Q : VK), Inv X pins σ H s → RelV x v → Vals xs us → r x xs H Q →
   wpAny (model X.prog X.w) X.A (call (.builtin id) (v :: us)) (EP X pins σ Q) X.xe s
section
variable {X : Cx} {a b : Expr} {ta tb : TE} {pos : Pos}
theorem IxR.or {r r' : R2} (h : IxR X r) (h' : IxR X r') : IxR X (fun x y H Q => r x y H Q ∨ r' x y H Q) := by
 intro value slice pins s σ H x y v u Q I rx ry q hs
 rcases q with q | q
 · exact h value slice pins s σ H x y v u Q I rx ry q hs
 · exact h' value slice pins s σ H x y v u Q I rx ry q hs
theorem MtR.or {id : String} {r r' : V → List V → Hp → VK → Prop} (h : MtR X id r) (h' : MtR X id r') : MtR X id (fun x xs H Q => r x xs H Q ∨ r' x xs H Q) := by
 intro pins s σ H x xs v us Q I rx rs q
 rcases q with q | q
 · exact h pins s σ H x xs v us Q I rx rs q
 · exact h' pins s σ H x xs v us Q I rx rs q
theorem pe_ix {r : R2} (hr : IxR X r) (ha : PE X a ta) (hb : PE X b tb) (hs : PlainIx b) : PE X (.Subscript a b pos) (tOp r ta tb) := by
 intro pins s σ H Q I h
 exact Subscript_ (binT ha hb I h fun v u s2 x y H2 I2 rx ry q => hr a b pins s2 σ H2 x y v u Q I2 rx ry q (hs _ _))

def rIxL (K : PySem.W.Frag) : R2 := fun x y H Q => ∃ p xs i v, x = .ref p ∧ y = .int i ∧ SqL K H p xs ∧ atI xs i = some v ∧ Q v H
def rIxT (K : PySem.W.Frag) : R2 := fun x y H Q => ∃ p xs i v, x = .ref p ∧ y = .int i ∧ SqT K H p xs ∧ atI xs i = some v ∧ Q v H
def rIxS : R2 := fun x y H Q => ∃ z i c, x = .str z ∧ y = .int i ∧ z.length ≤ sizeLine ∧ atI z.cps.toList i = some c ∧ Q (.str ⟨#[c]⟩) H
theorem ix_list : IxR X (rIxL X.K) := by
 intro value slice pins s σ H x y v u Q I rx ry h hs
 obtain ⟨p, xs, i, z, rfl, rfl, hq, he, q⟩ := h
 cases rx
 obtain ⟨t, rfl⟩ := ry
 obtain ⟨its, r, pl, hz⟩ := I.list hq
 obtain ⟨j, h1, h2, h3, h4, h5⟩ := atI_get he
 obtain ⟨w, ew, rw'⟩ := r.get h2
 have hl := r.length
 have hn := line63
 have fin : EP X pins σ Q w s := ⟨z, H, I, rw', q⟩
 by_cases h0 : 0 ≤ i
 · have hj : i.toNat = j := by
     rw [seqIndex_of h0 h5] at h1
     exact Option.some.inj h1
   exact item_listR pl.isList h0 (by omega) (by rw [hj]; simpa using ew) fin hs
 · have hj : (i + (its.toArray.size : Int)).toNat = j := by
     rw [seqIndex_neg (by omega) h4] at h1
     rw [List.size_toArray, ← hl]
     exact Option.some.inj h1
   exact subscriptTail_builtinR (x := w) pl.isList.typeIs slot_list_getitem.lookup
     (wpAny_getItem_list_neg (Q := fun r s' => r = w ∧ EP X pins σ Q r s') pl.isList (by omega) (by rw [List.size_toArray] <;> omega) (by omega) (by rw [hj]; simpa using ew) ⟨rfl, fin⟩) hs
theorem ix_tup : IxR X (rIxT X.K) := by
 intro value slice pins s σ H x y v u Q I rx ry h hs
 obtain ⟨p, xs, i, z, rfl, rfl, hq, he, q⟩ := h
 cases rx
 obtain ⟨t, rfl⟩ := ry
 obtain ⟨its, r, pl, hz⟩ := I.tuple hq
 obtain ⟨j, h1, h2, h3, h4, h5⟩ := atI_get he
 obtain ⟨w, ew, rw'⟩ := r.get h2
 have hl := r.length
 have hn := line63
 have fin : EP X pins σ Q w s := ⟨z, H, I, rw', q⟩
 exact subscriptTail_builtinR (x := w) pl.typeIs slot_tuple_getitem.lookup
   (getItem_tuple (j := j) (Q := fun r s' => r = w ∧ EP X pins σ Q r s') pl (by omega) (by omega) (by rw [List.size_toArray, ← hl]; exact h1) (by simpa using ew) ⟨rfl, fin⟩) hs
theorem ix_str : IxR X rIxS := by
 intro value slice pins s σ H x y v u Q I rx ry h hs
 obtain ⟨z, i, c, rfl, rfl, hz, he, q⟩ := h
 obtain ⟨t, rfl⟩ := rx
 obtain ⟨t', rfl⟩ := ry
 obtain ⟨j, h1, h2, h3, h4, h5⟩ := atI_get he
 have hl : z.cps.toList.length = z.length := by simp [Str.length]
 rw [hl] at h1 h4 h5
 have hn := line63
 exact tail_any (typeIs_str s z t) slot_str_getitem.lookup (getItem_str (c := c) (by
   have e1 : decide (i < -(2 ^ 63 : Int)) = false := decide_eq_false (by omega)
   have e2 : decide (i ≥ 2 ^ 63) = false := decide_eq_false (by omega)
   rw [e1, e2, Bool.or_false]) (by rw [h1]; simpa using h2) ⟨.str ⟨#[c]⟩, H, I.tok _, ⟨_, rfl⟩, q⟩) hs
theorem mapSeq_set (its : List Value) (n j : Nat) (u : Value) : Obj.mapSeq (·.setIfInBounds j u) { cls := .type "list", data := .seq its.toArray n } = { cls := .type "list", data := .seq (its.set j u).toArray n } := by
 simp [Obj.mapSeq]
theorem Inv.lst {pins : List (Addr × Obj)} {σ : St} {H : Hp} {s : Shared} {p : Addr} {xs : List V} (I : Inv X pins σ H s) (h : H p = some (.lst xs)) :
   ∃ (its : List Value) (n : Nat), Vals xs its ∧ s.heap.get? p = some { cls := .type "list", data := .seq its.toArray n } ∧ xs.length ≤ sizeLine := by
 obtain ⟨z, its, n, r, e⟩ := I.hok p _ h
 exact ⟨its, n, r, e, z⟩
theorem Inv.lstUpd {pins : List (Addr × Obj)} {σ : St} {H : Hp} {s : Shared} {p : Addr} {xs ys : List V} {its its' : List Value} {n n' : Nat} {f : Obj → Obj} (I : Inv X pins σ H s) (h : H p = some (.lst xs))
   (ho : s.heap.get? p = some { cls := .type "list", data := .seq its.toArray n }) (hf : f { cls := .type "list", data := .seq its.toArray n } = { cls := .type "list", data := .seq its'.toArray n' }) (r : Vals ys its') (hz : ys.length ≤ sizeLine) (t : Nat) :
   Inv X pins σ (upd H p (.lst ys)) { s with heap := s.heap.update p f, toks := t } := by
 have e : (s.heap.update p f).get? p = some { cls := .type "list", data := .seq its'.toArray n' } := by
   rw [Heap.get?_update_self f ho (by rw [hf] <;> rfl), hf]
 refine I.write (x := p) (e := p) (by rw [h]; trivial) (.inl rfl) (fun b u hb q => (Heap.get?_update_other _ _ (Ne.symm hb)).trans q) ⟨_, e⟩ ?_
 exact ⟨hz, its', n', r, e⟩
def rSetL : V → V → V → Hp → (Hp → Prop) → Prop := fun o i v H Q => ∃ p xs k j, o = .ref p ∧ i = .int k ∧ H p = some (.lst xs) ∧ ixN xs.length k = some j ∧ Q (upd H p (.lst (xs.set j v)))
theorem set_list : PSet X rSetL := by
 intro pins s σ H o i v ov iv u Q I ro ri rv h
 obtain ⟨p, xs, k, j, rfl, rfl, hp, hj, q⟩ := h
 cases ro
 obtain ⟨t, rfl⟩ := ri
 obtain ⟨its, n, r, ho, hz⟩ := I.lst hp
 obtain ⟨h1, h2, h3, h4⟩ := ixN_seq hj
 have hl := r.length
 have hn := line63
 have I' : Inv X pins σ (upd H p (.lst (xs.set j v))) { s with heap := s.heap.update p (Obj.mapSeq (·.setIfInBounds j u)) } :=
   I.lstUpd hp ho (mapSeq_set its n j u) (r.set rv j) (by rw [List.length_set]; exact hz) s.toks
 by_cases h0 : 0 ≤ k
 · have hk : k.toNat = j := by
     rw [seqIndex_of h0 h4] at h1
     exact Option.some.inj h1
   exact PySem.W.ki_setAt ho h0 (by omega) (by rw [List.size_toArray, ← hl]; exact h4) (by rw [hk]; exact ⟨_, I', q⟩)
 · have hk : (k + (its.toArray.size : Int)).toNat = j := by
     rw [seqIndex_neg (by omega) h3] at h1
     rw [List.size_toArray, ← hl]
     exact Option.some.inj h1
   exact PySem.W.ki_setBack ho (by omega) (by rw [List.size_toArray, ← hl]; exact h3) (by omega) (by rw [hk]; exact ⟨_, I', q⟩)
theorem slice_bounds (lo hi : Option Int) (n : Nat) : (sliceBounds lo hi none n).1 = ((HT.sIx n 0 lo : Nat) : Int) ∧ (sliceBounds lo hi none n).2.1 = ((HT.sIx n n hi : Nat) : Int) ∧ (sliceBounds lo hi none n).2.2 = 1 := by
 refine ⟨?_, ?_, rfl⟩
 · cases lo with
   | none => simp [sliceBounds, HT.sIx]
   | some i =>
     simp only [sliceBounds, HT.sIx, Option.getD_none, show (1 : Int) > 0 by decide, if_true]
     by_cases h : i < 0
     · simp only [h, if_true] <;> omega
     · simp only [h, if_false] <;> omega
 · cases hi with
   | none => simp [sliceBounds, HT.sIx]
   | some i =>
     simp only [sliceBounds, HT.sIx, Option.getD_none, show (1 : Int) > 0 by decide, if_true]
     by_cases h : i < 0
     · simp only [h, if_true] <;> omega
     · simp only [h, if_false] <;> omega
theorem slicePick_cut (its : List Value) (lo hi : Option Int) : slicePick its.toArray lo hi none = ((its.drop (HT.sIx its.length 0 lo)).take (HT.sIx its.length its.length hi - HT.sIx its.length 0 lo)).toArray := by
 obtain ⟨h1, h2, h3⟩ := slice_bounds lo hi its.toArray.size
 unfold slicePick
 rw [h1, h2, h3]
 simp only [sliceRange_one, pick_run, List.size_toArray] <;> rfl
def rSlL (K : PySem.W.Frag) : V → Option Int → Option Int → Hp → VK → Prop := fun x lo hi H Q => ∃ a xs, x = .ref a ∧ SqL K H a xs ∧ ∀ p, H p = none → Q (.ref p) (upd H p (.lst (cutV xs lo hi)))
theorem sl_list : SlR X (rSlL X.K) := by
 intro pins s σ H x v vl vu lo hi sl Q I rx hs pl pu h
 obtain ⟨a, xs, rfl, hx, q⟩ := h
 cases rx
 obtain ⟨its, r, ht, hz⟩ := I.list hx
 have hlen := r.length
 refine ⟨"list", _, slot_list_getitem.lookup, ht.isList.typeIs, ?_⟩
 refine wpAny_getItem_list_slice ht.isList hs pl pu .none (by simp) ?_ (by rw [List.size_toArray] <;> omega)
 rw [slicePick_cut, ← hlen]
 refine ⟨.ref s.heap.objs.size, _, I.laid (t' := s.toks) (o := .lst (cutV xs lo hi)) (fun b ob q => Heap.get?_push_of_some _ q) (Nat.le_refl _) ?_, rfl, q _ (I.hok.fresh (Nat.le_refl _))⟩
 exact ⟨Nat.le_trans (cutV_length xs lo hi) hz, _, 0, (r.drop (HT.sIx xs.length 0 lo)).take (HT.sIx xs.length xs.length hi - HT.sIx xs.length 0 lo), Heap.get?_push_size _ rfl⟩
def flatV : V → Bool
 | .non => true
 | .bl _ => true
 | .int _ => true
 | .str _ => true
 | _ => false
def eqV : V → V → Bool
 | .non, .non => true
 | .bl a, .bl b => a == b
 | .bl a, .int b => (if a then 1 else 0) == b
 | .int a, .bl b => a == (if b then 1 else 0)
 | .int a, .int b => a == b
 | .str a, .str b => a == b
 | _, _ => false
theorem eqAt_V {A : Around} {s : Shared} {y x : V} {u v : Value} (ry : RelV y u) (rx : RelV x v) (fy : flatV y = true) (fx : flatV x = true) : SeqAt.EqAt A s u v (eqV y x) := by
 cases y with
 | non =>
   cases ry
   cases x with
   | non => cases rx; exact SeqAt.EqAt.same _
   | bl b => cases rx; exact SeqAt.EqAt.none_bool b
   | int b => obtain ⟨t, rfl⟩ := rx; exact SeqAt.EqAt.none_int b t
   | str b => obtain ⟨t, rfl⟩ := rx; exact SeqAt.EqAt.none_str b t
   | _ => exact absurd (show false = true from fx) Bool.false_ne_true
 | bl a =>
   cases ry
   cases x with
   | non => cases rx; exact SeqAt.EqAt.bool_none a
   | bl b => cases rx; exact SeqAt.EqAt.bool_bool a b
   | int b => obtain ⟨t, rfl⟩ := rx; exact SeqAt.EqAt.bool_int a b t
   | str b => obtain ⟨t, rfl⟩ := rx; exact SeqAt.EqAt.bool_str a b t
   | _ => exact absurd (show false = true from fx) Bool.false_ne_true
 | int a =>
   obtain ⟨t', rfl⟩ := ry
   cases x with
   | non => cases rx; exact SeqAt.EqAt.int_none a t'
   | bl b => cases rx; exact SeqAt.EqAt.int_bool a t' b
   | int b => obtain ⟨t, rfl⟩ := rx; exact SeqAt.EqAt.int_int a t' b t
   | str b => obtain ⟨t, rfl⟩ := rx; exact SeqAt.EqAt.int_str a t' b t
   | _ => exact absurd (show false = true from fx) Bool.false_ne_true
 | str a =>
   obtain ⟨t', rfl⟩ := ry
   cases x with
   | non => cases rx; exact SeqAt.EqAt.str_none a t'
   | bl b => cases rx; exact SeqAt.EqAt.str_bool a t' b
   | int b => obtain ⟨t, rfl⟩ := rx; exact SeqAt.EqAt.str_int a t' b t
   | str b => obtain ⟨t, rfl⟩ := rx; exact SeqAt.EqAt.str_str a t' b t
   | _ => exact absurd (show false = true from fx) Bool.false_ne_true
 | _ => exact absurd (show false = true from fy) Bool.false_ne_true
def eqU (x : V) (u : Value) : Bool := match u with
 | .none => eqV .non x
 | .bool b => eqV (.bl b) x
 | .int i _ => eqV (.int i) x
 | .str z _ => eqV (.str z) x
 | _ => false
theorem eqU_of {x y : V} {u : Value} (r : RelV y u) (f : flatV y = true) : eqU x u = eqV y x := by
 cases y with
 | non => cases r; rfl
 | bl b => cases r; rfl
 | int i => obtain ⟨t, rfl⟩ := r; rfl
 | str z => obtain ⟨t, rfl⟩ := r; rfl
 | _ => exact absurd (show false = true from f) Bool.false_ne_true
theorem any_eqU {x : V} : ∀ {xs : List V} {us : List Value}, Vals xs us → xs.all flatV = true → us.any (eqU x) = xs.any fun y => eqV y x
 | _, _, .nil, _ => rfl
 | y :: xs, u :: us, .cons r t, f => by
   rw [List.all_cons, Bool.and_eq_true] at f
   rw [List.any_cons, List.any_cons, eqU_of r f.1, any_eqU t f.2]
theorem mem_eqAt {A : Around} {s : Shared} {x : V} {v : Value} (rx : RelV x v) (fx : flatV x = true) : ∀ {xs : List V} {us : List Value}, Vals xs us → xs.all flatV = true → ∀ u ∈ us, SeqAt.EqAt A s u v (eqU x u)
 | _, _, .nil, _ => fun u hu => by cases hu
 | y :: xs, u :: us, .cons r t, f => fun u' hu => by
   rw [List.all_cons, Bool.and_eq_true] at f
   rcases List.mem_cons.mp hu with rfl | hu
   · rw [eqU_of r f.1]; exact eqAt_V r rx f.1 fx
   · exact mem_eqAt rx fx t f.2 u' hu
def inV (x : V) (xs : List V) : Bool := xs.any fun y => eqV y x
def rIn (K : PySem.W.Frag) (neg : Bool) : R2 := fun x y H Q => ∃ p xs, y = .ref p ∧ (SqL K H p xs ∨ SqT K H p xs) ∧ flatV x = true ∧ xs.all flatV = true ∧ Q (.bl (if neg then !inV x xs else inV x xs)) H
theorem op_in_seq : OpR X (compareOp .In) (rIn X.K false) := by
 intro pins s σ H x y v u Q I rx ry h
 obtain ⟨p, xs, rfl, hq, fx, fs, q⟩ := h
 cases ry
 rcases hq with hq | hq
 · obtain ⟨its, r, pl, hz⟩ := I.list hq
   refine SeqAt.in_listAt (eqU x) pl.isList (fun w hw => mem_eqAt rx fx r fs w (by simpa using hw)) ⟨.bl _, H, I, rfl, ?_⟩
   rw [show its.toArray.any (eqU x) = its.any (eqU x) by simp, any_eqU r fs]
   exact q
 · obtain ⟨its, r, pl, hz⟩ := I.tuple hq
   refine SeqAt.in_tupleAt (eqU x) pl (fun w hw => mem_eqAt rx fx r fs w (by simpa using hw)) ⟨.bl _, H, I, rfl, ?_⟩
   rw [show its.toArray.any (eqU x) = its.any (eqU x) by simp, any_eqU r fs]
   exact q
theorem op_notIn_str : OpR X (compareOp .NotIn) (fun x y H Q => ∃ i j, x = .str i ∧ y = .str j ∧ Q (.bl (!(!(Builtin.Str.occurrences j i 0 j.length 1).isEmpty))) H) := by
 intro pins s σ H x y v u Q I rx ry h
 obtain ⟨i, j, rfl, rfl, q⟩ := h
 obtain ⟨t, rfl⟩ := rx
 obtain ⟨t', rfl⟩ := ry
 exact notIn_str ⟨.bl _, H, I, rfl, q⟩
theorem call_len_seq : CallR X (.builtin "len") (fun xs H Q => ∃ p ys, xs = [.ref p] ∧ (SqL X.K H p ys ∨ SqT X.K H p ys) ∧ Q (.int ys.length) H) := by
 intro pins s σ H xs us Q I r h
 obtain ⟨p, ys, rfl, hq, q⟩ := h
 obtain ⟨u, rfl, rx⟩ := vals1 r
 cases rx
 have hn := line63
 rcases hq with hq | hq
 · obtain ⟨its, r', pl, hz⟩ := I.list hq
   have hlen := r'.length
   exact Calls.call_len_list pl.isList (by simp only [List.size_toArray] <;> omega) ⟨.int ys.length, H, I.tok _, ⟨s.toks + 1, by rw [List.size_toArray, hlen]⟩, q⟩
 · obtain ⟨its, r', pl, hz⟩ := I.tuple hq
   have hlen := r'.length
   exact len_tuple pl (by simp only [List.size_toArray] <;> omega) ⟨.int ys.length, H, I.tok _, ⟨s.toks + 1, by rw [List.size_toArray, hlen]⟩, q⟩
theorem call_len_str : CallR X (.builtin "len") (fun xs H Q => ∃ z, xs = [.str z] ∧ z.length ≤ sizeLine ∧ Q (.int z.length) H) := by
 intro pins s σ H xs us Q I r h
 obtain ⟨z, rfl, hz, q⟩ := h
 obtain ⟨u, rfl, t, rfl⟩ := vals1 r
 have hn := line63
 exact len_str (by omega) ⟨.int z.length, H, I.tok _, ⟨_, rfl⟩, q⟩
theorem CallR.or {f : Value} {r r' : List V → Hp → VK → Prop} (h : CallR X f r) (h' : CallR X f r') : CallR X f (fun xs H Q => r xs H Q ∨ r' xs H Q) := by
 intro pins s σ H xs us Q I rs q
 rcases q with q | q
 · exact h pins s σ H xs us Q I rs q
 · exact h' pins s σ H xs us Q I rs q
theorem call_list_of : CallR X (.type "list") (fun xs H Q => ∃ p ys, xs = [.ref p] ∧ (SqL X.K H p ys ∨ SqT X.K H p ys) ∧ ∀ l, H l = none → Q (.ref l) (upd H l (.lst ys))) := by
 intro pins s σ H xs us Q I r h
 obtain ⟨p, ys, rfl, hq, q⟩ := h
 obtain ⟨u, rfl, rx⟩ := vals1 r
 cases rx
 have fin : ∀ (its : List Value), Vals ys its → ys.length ≤ sizeLine → ∀ (h' : Heap) (c' : Nat), (∀ b o', s.heap.get? b = some o' → h'.get? b = some o') →
     h'.get? s.heap.objs.size = some { cls := .type "list", dict := none, data := .seq its.toArray c', slots := #[] } → EP X pins σ Q (.ref s.heap.objs.size) { s with heap := h' } := fun its r' hz h' c' kp e =>
   ⟨.ref s.heap.objs.size, _, I.laid (t' := s.toks) kp (Nat.le_refl _) (show ObjOk X.prog X.w _ h' _ (.lst ys) from ⟨hz, its, c', r', e⟩), rfl, q _ (I.hok.fresh (Nat.le_refl _))⟩
 rcases hq with hq | hq
 · obtain ⟨its, r', pl, hz⟩ := I.list hq
   have hlen := r'.length
   obtain ⟨o, ho, hc, n, hd⟩ := pl.isList
   exact call_list_seq p (.inl rfl) ho hc hd (fun h' c' kp e => fin its r' hz h' c' kp e) (by simp only [List.size_toArray] <;> omega)
 · obtain ⟨its, r', pl, hz⟩ := I.tuple hq
   have hlen := r'.length
   obtain ⟨o, ho, hc, n, hd⟩ := pl
   exact call_list_seq p (.inr rfl) ho hc hd (fun h' c' kp e => fin its r' hz h' c' kp e) (by simp only [List.size_toArray] <;> omega)
theorem call_tuple_of : CallR X (.type "tuple") (fun xs H Q => ∃ p ys, xs = [.ref p] ∧ ((SqL X.K H p ys ∧ ∀ l, H l = none → Q (.ref l) (upd H l (.tup ys))) ∨ (SqT X.K H p ys ∧ Q (.ref p) H))) := by
 intro pins s σ H xs us Q I r h
 obtain ⟨p, ys, rfl, h⟩ := h
 obtain ⟨u, rfl, rx⟩ := vals1 r
 cases rx
 rcases h with ⟨hq, q⟩ | ⟨hq, q⟩
 · obtain ⟨its, r', pl, hz⟩ := I.list hq
   have hlen := r'.length
   refine call_tuple_list pl.isList (fun h' kp => ?_) (by simp only [List.size_toArray] <;> omega)
   have I1 : Inv X pins σ H { s with heap := h' } := I.kept (t' := s.toks) kp
   have I2 : Inv X pins σ (upd H h'.objs.size (.tup ys)) { s with heap := h'.push { cls := .type "tuple", data := .seq its.toArray } } :=
     I1.laid (t' := s.toks) (fun b o e => Heap.get?_push_of_some _ e) (Nat.le_refl _) (show ObjOk X.prog X.w _ _ _ (.tup ys) from ⟨hz, its, r', IsTup.new _ _⟩)
   exact ⟨.ref h'.objs.size, _, I2, rfl, q _ (I1.hok.fresh (Nat.le_refl _))⟩
 · obtain ⟨its, r', pl, hz⟩ := I.tuple hq
   exact call_tuple_same pl ⟨.ref p, H, I, rfl, q⟩
def tyV (K : PySem.W.Frag) (T : String) (x : V) (H : Hp) : Prop := match x with
 | .str _ => T = "str"
 | .int _ => T = "int"
 | .ref p => (T = "list" ∧ ∃ xs, SqL K H p xs) ∨ (T = "tuple" ∧ ∃ o, K.lookup p = some o ∧ o.cls = .type "tuple" ∧ o.dict = none) ∨
     (T = "dict" ∧ ((∃ kvs, H p = some (.dK kvs)) ∨ ∃ kvs, H p = some (.dT kvs))) ∨ (T = "set" ∧ ∃ S n, H p = some (.set S n))
 | _ => False
theorem tyV_is {pins : List (Addr × Obj)} {σ : St} {H : Hp} {s : Shared} {T : String} {x : V} {v : Value} (I : Inv X pins σ H s) (r : RelV x v) (ty : tyV X.K T x H) :
   s.TypeIs v T ∧ ∀ a, v = .ref a → ∃ ob, s.heap.get? a = some ob ∧ ob.dict = none := by
 cases x with
 | str z =>
   obtain ⟨t, rfl⟩ := r
   cases (show T = "str" from ty)
   exact ⟨typeIs_str s z t, fun _ e => nomatch e⟩
 | int i =>
   obtain ⟨t, rfl⟩ := r
   cases (show T = "int" from ty)
   exact ⟨typeIs_int s i t, fun _ e => nomatch e⟩
 | ref p =>
   cases r
   rcases ty with ⟨rfl, xs, hq⟩ | ⟨rfl, o, hk, hc, hd⟩ | ⟨rfl, hk⟩ | ⟨rfl, S, n, hk⟩
   · obtain ⟨its, _, pl, _⟩ := I.list hq
     refine ⟨pl.isList.typeIs, fun a e => ?_⟩
     cases e
     obtain ⟨o, n, e, c, hd, _⟩ := pl
     exact ⟨o, e, hd⟩
   · refine ⟨⟨o, I.kIn p o hk, hc⟩, fun a e => ?_⟩
     cases e
     exact ⟨o, I.kIn _ o hk, hd⟩
   · have z : ∃ o, s.heap.get? p = some o ∧ o.ExactDict := by
       rcases hk with ⟨kvs, hk⟩ | ⟨kvs, hk⟩
       · obtain ⟨_, _, _, _, o, _, _, e, ex, _⟩ := I.hok p _ hk
         exact ⟨o, e, ex⟩
       · obtain ⟨_, _, _, _, o, _, _, e, ex, _⟩ := I.hok p _ hk
         exact ⟨o, e, ex⟩
     obtain ⟨o, e, ex⟩ := z
     refine ⟨⟨o, e, ex.1⟩, fun a e2 => ?_⟩
     cases e2
     exact ⟨o, e, ex.2.1⟩
   · obtain ⟨o, _, _, _, e, ex, _⟩ := I.hok p _ hk
     refine ⟨⟨o, e, ex.1⟩, fun a e2 => ?_⟩
     cases e2
     exact ⟨o, e, ex.2.1⟩
 | _ => exact False.elim ty
def tBM (K : PySem.W.Frag) (T : String) (r : V → List V → Hp → VK → Prop) (to : TE) (t : TA) : TE := fun σ H Q => to σ H fun x H1 => tyV K T x H1 ∧ t σ H1 fun xs H2 => r x xs H2 Q
variable {o e : Expr} {es : List Expr} {to : TE} {t : TA} {name : Str} {apos cpos : Pos} {T id : String} {r : V → List V → Hp → VK → Prop}
theorem pe_bm (pa : PlainAttrs T) (slot : Slot T name id) (hty : typeOf (.builtin id) = pure (.type "method_descriptor")) (hm : MtR X id r) (ho : PE X o to) (ha : PA X (e :: es) t)
   (hbase : attributeBase o name X.env (eval o X.env) = eval o X.env := by rfl)
   (hfew : ((backTo cpos (starEach (e :: es) X.env)).all (fun x => !x.1) && (backToKw cpos (keywordEach [] X.env)).all (fun x => x.1.isSome)
     && decide ((e :: es).length + ([] : List Keyword).length + (if ([] : List Keyword).isEmpty then 0 else 1) < 30)) = true := by rfl)
   (hline : (apos.endLine == cpos.line) = true := by rfl) (hs : starEach (e :: es) X.env = (false, eval e X.env) :: starEach es X.env := by rfl) (hplain : (backTo cpos (starEach es X.env)).any (·.1) = false := by rfl) :
   PE X (.Call (.Attribute o name apos) (e :: es) [] cpos) (tBM X.K T r to t) := by
 intro pins s σ H Q I h
 refine wpAny_Call_method_late hbase hfew hline rfl (thn (ho pins s σ H _ I h) fun v s1 ⟨x, H1, I1, r1, ty, q1⟩ => ?_)
 obtain ⟨h1, h2⟩ := tyV_is I1 r1 ty
 refine ⟨T, id, pa, slot, hty, h1, h2, ?_⟩
 have hA := ha cpos pins s1 σ H1 _ I1 q1
 rw [hs] at hA ⊢
 refine Calls.callWith_builtin (by show (false || (backTo cpos (starEach es X.env)).any (·.1)) = false; rw [hplain] <;> rfl) (Calls.evalArgs_plain ?_)
 exact thn hA fun us s2 ⟨vs, H2, I2, r2, q2⟩ => hm pins s2 σ H2 x vs v us Q I2 r1 r2 q2
/- xs.append(e), list.index on a module's tuple .. are MtR facts of 06m -/
end
end L2

namespace L2
open PySem PySem.Spec PyProof.Rows

def MtM (X : Cx) (id : String) (r : V → List V → Hp → VK → Prop) : Prop :=
 ∀ (pins : List (Addr × Obj)) (s : Shared) (σ : St) (H : Hp) (x : V) (xs : List V) (v : Value) (us : List Value) (Q : VK), Inv X pins σ H s → RelV x v → Vals xs us → r x xs H Q →
   wpAny (model X.prog X.w) X.A (call (.builtin id) (v :: us)) (EP X pins σ Q) X.xe s
theorem Vals.one : ∀ {x : V} {us : List Value}, Vals [x] us → ∃ u, us = [u] ∧ RelV x u
 | _, _, .cons r .nil => ⟨_, rfl, r⟩
theorem Vals.zero : ∀ {us : List Value}, Vals [] us → us = []
 | _, .nil => rfl
theorem Vals.reverse {xs : List V} {us : List Value} (h : Vals xs us) : Vals xs.reverse us.reverse := by
 induction h with
 | nil => exact .nil
 | cons r t ih => rw [List.reverse_cons, List.reverse_cons]; exact Vals.append ih (.cons r .nil)
section
variable {X : Cx} {pins : List (Addr × Obj)} {σ : St} {H : Hp} {s : Shared} {l b : Addr} {xs ys zs : List V}
theorem Inv.lset {its its' : List Value} {n : Nat} {f : Array Value → Array Value} {t' : Nat} (I : Inv X pins σ H s) (hH : H l = some (.lst xs))
   (e : s.heap.get? l = some { cls := .type "list", data := .seq its.toArray n }) (hf : f its.toArray = its'.toArray) (hv : Vals ys its') (hz : ys.length ≤ sizeLine) :
   Inv X pins σ (upd H l (.lst ys)) { s with heap := s.heap.update l (Obj.mapSeq f), toks := t' } := by
 have q := PySem.IsL.update e f
 rw [hf] at q
 refine I.write (x := l) (e := l) (by rw [hH]; exact trivial) (.inl rfl) (fun b' u hb hu => (Heap.get?_update_other s.heap (Obj.mapSeq f) (Ne.symm hb)).trans hu) ⟨_, q⟩ ?_
 exact ⟨hz, its', _, hv, q⟩
theorem Inv.lnew {its : List Value} {t' : Nat} (I : Inv X pins σ H s) (hv : Vals ys its) (hz : ys.length ≤ sizeLine) :
   Inv X pins σ (upd H s.heap.objs.size (.lst ys)) { s with heap := s.heap.push { cls := .type "list", data := .seq its.toArray }, toks := t' } :=
 I.laid (fun _ _ q => Heap.get?_push_of_some _ q) (Nat.le_refl _) ⟨hz, its, 0, hv, Heap.get?_push_size _ rfl⟩
theorem Inv.fresh (I : Inv X pins σ H s) : H s.heap.objs.size = none := I.hok.fresh (Nat.le_refl _)
theorem Inv.lstM (I : Inv X pins σ H s) (hH : H l = some (.lst xs)) : xs.length ≤ sizeLine ∧ ∃ (its : List Value) (n : Nat), Vals xs its ∧ xs.length = its.length ∧ s.heap.get? l = some { cls := .type "list", data := .seq its.toArray n } := by
 obtain ⟨z, its, n, r, e⟩ := I.hok l _ hH
 exact ⟨z, its, n, r, r.length, e⟩

theorem notLongL {n : Nat} (h : n ≤ sizeLine) : Builtin.List.listTooLong n = false := by
 unfold Builtin.List.listTooLong
 exact decide_eq_false (by omega)
end

section
variable {X : Cx}
def rAppend : V → List V → Hp → VK → Prop := fun x vs H Q => ∃ l xs y, x = .ref l ∧ vs = [y] ∧ H l = some (.lst xs) ∧ xs.length < sizeLine ∧ Q .non (upd H l (.lst (xs ++ [y])))
theorem mt_append : MtM X "list.append" rAppend := by
 intro pins s σ H x vs v us Q I rx rv h
 obtain ⟨l, xs, y, rfl, rfl, hH, hz, q⟩ := h
 cases rx
 obtain ⟨u, rfl, ru⟩ := rv.one
 obtain ⟨z, its, n, r, hl, e⟩ := I.lstM hH
 refine call_meets F.slot_list_append ⟨_, e, rfl⟩ F.entry_list_append (F.args_list_append_2 _ _) (PySem.list_append l its.toArray n u (by rw [List.size_toArray]; omega)) ⟨e, ?_⟩
 refine ⟨.non, _, I.lset (its' := its ++ [u]) hH e (by simp) (r.append (.cons ru .nil)) ?_, rfl, q⟩
 rw [List.length_append, List.length_singleton]
 omega

def rCat : R2 := fun x y H Q => ∃ l b xs zs, x = .ref l ∧ y = .ref b ∧ H l = some (.lst xs) ∧ H b = some (.lst zs) ∧ xs.length + zs.length ≤ sizeLine ∧ ∀ p, H p = none → Q (.ref p) (upd H p (.lst (xs ++ zs)))
theorem op_cat : OpR X (binaryOp .Add) rCat := by
 intro pins s σ H x y v u Q I rx ry h
 obtain ⟨l, b, xs, zs, rfl, rfl, hH, hB, hz, q⟩ := h
 cases rx
 cases ry
 obtain ⟨z, its, n, r, hl, e⟩ := I.lstM hH
 obtain ⟨z2, its2, n2, r2, hl2, e2⟩ := I.lstM hB
 refine PySem.P.add_list e e2 ?_ (by rw [List.size_toArray, List.size_toArray]; omega)
 have ea : its.toArray ++ its2.toArray = (its ++ its2).toArray := by simp
 rw [ea]
 exact ⟨.ref _, _, I.lnew (t' := s.toks) (r.append r2) (by rw [List.length_append]; omega), rfl, q _ I.fresh⟩
end
section
variable {prog : Program} {w : World} {A : Around} {E : Value → Shared → Prop} {s : Shared}
theorem bounds_run {a c n : Nat} (hac : a ≤ c) (hc : c ≤ n) : sliceBounds (some (a : Int)) (some (c : Int)) none n = ((a : Int), (c : Int), 1) := by
 simp only [sliceBounds, Option.getD_none]
 have h1 : ¬ ((a : Int) < 0) := by omega
 have h2 : ¬ ((c : Int) < 0) := by omega
 simp only [h1, h2, if_false, show (1 : Int) > 0 by decide, if_true]
 congr 1
 · omega
 · congr 1; omega
set_option maxRecDepth 100000 in
theorem setItem_slice {l b sl : Addr} {items new : Array Value} {n n2 : Nat} {vl vu : Value} {a c : Nat} {Q : Unit → Shared → Prop}
   (e : s.heap.get? l = some { cls := .type "list", data := .seq items n }) (e2 : s.heap.get? b = some { cls := .type "list", data := .seq new n2 }) (hne : l ≠ b)
   (hs : s.heap.IsSliceOf sl vl vu .none) (pl : IsPart vl (some (a : Int))) (pu : IsPart vu (some (c : Int))) (hac : a ≤ c) (hc : c ≤ items.size)
   (hsz : items.size + new.size ≤ sizeLine) (h : Q () { s with heap := s.heap.update l (Obj.mapSeq fun xs => xs.extract 0 a ++ new ++ xs.extract c xs.size) }) :
   wpAny (model prog w) A (setItem (.ref l) (.ref sl) (.ref b)) Q E s := by
 have hl : s.heap.IsList l items := PySem.IsL.isList e
 have hb : s.heap.IsList b new := PySem.IsL.isList e2
 obtain ⟨os, hos, hcs, hds⟩ := id hs
 have hTs : s.TypeIs (.ref sl) "slice" := ⟨os, hos, hcs⟩
 have hstep : ¬ ((rawPart none == rawInt 0) = true) := Bool.false_ne_true
 have hsame : Builtin.List.listSameRef (.ref l) (.ref b) = false := by
   unfold Builtin.List.listSameRef
   exact beq_eq_false_iff_ne.mpr hne
 have hmax : (max (a : Int) (c : Int)).toNat = c := by omega
 have hz' : ((fun xs : Array Value => xs.extract 0 a ++ new ++ xs.extract c xs.size) items).size ≤ sizeLine + 1 := by
   simp only [Array.size_append, Array.size_extract]
   omega
 unfold setItem
 try with_reducible refine wpAny_holding ?_
 first | refine wpAny_bind (wpAny_pure ?_) | skip
 refine wpAny_bind (wpAny_sequenceKey hl.typeIs (by decide) ?_)
 refine wpAny_bind (wpAny_callSpecial?_slot (name := Str.ofString "__setitem__") hl.typeIs slot_list_setitem
   (wpAny_call_entry slot_list_setitem hl.typeIs entry_list_setitem ?_ (args_list_setitem _ _ _)))
 show wpAny _ _ (Builtin.List.listSubscript? (.ref sl) >>= _) _ _ s
 refine wpAny_bind ?_
 unfold Builtin.List.listSubscript?
 refine wpAny_bind (wpAny_specialOf hTs slice_no_index ?_)
 simp only [Option.isNone_none, if_true]
 refine wpAny_pure ?_
 show wpAny _ _ (typeOf (.ref sl) >>= _) _ _ s
 refine wpAny_bind (wpAny_typeOf hTs ?_)
 first
   | rw [if_neg (by decide)]
   | refine PySem.W.KFB.if_not (by decide) ?_
 rw [listSliceParts_eq]
 refine wpAny_bind (wpAny_bind (wpAny_field hos hds (x := .none) rfl (wpAny_bind (wpAny_listPart .none ?_))))
 rw [if_neg hstep]
 refine wpAny_bind (wpAny_field hos hds (x := vl) rfl (wpAny_bind (wpAny_listPart pl ?_)))
 refine wpAny_bind (wpAny_field hos hds (x := vu) rfl (wpAny_bind (wpAny_listPart pu (wpAny_pure ?_))))
 first
   | simp only [hsame, Bool.false_eq_true, if_false]
   | refine PySem.W.KFB.if_not hsame ?_
   | (dsimp only
      rw [if_neg (by rw [hsame]; exact Bool.false_ne_true)])
 refine wpAny_bind (m := Builtin.List.listAllItems (.ref b) "must assign iterable to extended slice") ?_
 unfold Builtin.List.listAllItems
 refine wpAny_bind (wpAny_typeOf hb.typeIs ?_)
 first
   | refine PySem.W.KFB.if_so (by decide) ?_
   | rw [if_pos (by decide)]
   | simp only [beq_self_eq_true, Bool.true_or, if_true]
 unfold Builtin.List.listItems
 refine wpAny_bind (wpAny_seqItems e2 rfl (wpAny_pure ?_))
 refine wpAny_bind (wpAny_bind (wpAny_seqItems e rfl (wpAny_pure ?_)))
 refine wpAny_bind (wpAny_of_eq ((sliceIndices_raw (some (a : Int)) (some (c : Int)) none items.size (by simp)).trans (congrArg (pure : Int × Int × Int → Sem (Int × Int × Int)) (bounds_run hac hc))) ?_)
 show wpAny _ _ (if ((1 : Int) == 1) = true then _ else _) _ _ s
 rw [if_pos (by decide)]
 refine wpAny_bind (wpAny_rule ?_)
 first
   | simp only [notLongL hsz, Bool.false_eq_true, if_false]
   | refine PySem.W.KFB.if_not (notLongL hsz) ?_
 first | refine wpAny_bind (wpAny_pure ?_) | skip
 show wpAny _ _ (updateSeq l (fun xs => xs.extract 0 ((a : Int)).toNat ++ new ++ xs.extract (max (a : Int) (c : Int)).toNat xs.size) >>= _) _ _ s
 rw [hmax, Int.toNat_natCast]
 refine wpAny_bind (wpAny_updateSeq (hz := Nat.le_trans (Nat.le_add_right _ _) hsz) (_hz' := hz') e rfl ?_)
 refine wpAny_bind (wpAny_letGo ?_)
 first
   | exact wpAny_bind (wpAny_pure (wpAny_pure ⟨.none, rfl, wpAny_pure h⟩))
   | exact wpAny_pure ⟨.none, rfl, wpAny_pure h⟩
end

section
variable {X : Cx}
end
end L2

namespace Att
open PySem PySem.W PySem.Calls PyProof.Rows
theorem ints_of_wellAll {P : Params} {h : Heap} : ∀ (ns : List Int) (vs : List Value), WellAll P h vs (ns.map WData.int) → IntsAre vs ns := by
 intro ns
 induction ns with
 | nil =>
   intro vs w
   rw [List.map_nil] at w
   cases w
   exact .nil
 | cons n ns ih =>
   intro vs w
   rw [List.map_cons] at w
   cases w with
   | cons a b =>
     cases a
     exact .cons _ _ (ih _ b)

theorem script_of {l : OpenLaw} {n : Nat} (hn : l.most = some n) {P : Params} {h : Heap} {args : List WData} {vals : List Value}
   (hpre : l.row.toRowW.claim.pre args = true) (hwl : WellAll P h vals args) :
   ∃ a vs ns, vals = [Value.ref a] ∧ args = [WData.list (ns.map WData.int)] ∧ h.get? a = some { cls := .type "list", data := .seq vs.toArray } ∧ IntsAre vs ns ∧ ns.length ≤ n := by
 have hsh : WShape.hasAll [] args [.list .int] = true := (pre_splitW hpre).1
 have hc : l.pre.holds [] { args := args } = true := (pre_splitW hpre).2
 obtain ⟨d, r, rfl, h1, h2⟩ := hasAllW_cons hsh
 obtain rfl := hasAllW_nil h2
 obtain ⟨xs, rfl, h3⟩ := hasW_list h1
 obtain ⟨ns, rfl⟩ := items_int h3
 have hlen : ns.length ≤ n := by
   unfold OpenLaw.pre at hc
   have h4 : (WTm.not (.lt (.lit (.int (n : Int))) (.len (.arg 0)))).holds [] { args := [.list (ns.map .int)] } = true := by
     have h4 := (holds_andW hc).1
     rw [hn] at h4
     exact h4
   have h5 := condW_of h4 (w_not (w_lt w_lit (w_len_list (w_arg rfl))))
   rw [List.length_map] at h5
   refine Nat.le_of_not_lt fun q => ?_
   have q' : (n : Int) < ((ns.length : Nat) : Int) := by omega
   first
     | (rw [decide_eq_true q'] at h5; exact absurd h5 (by decide))
     | (simp at h5; omega)
 cases hwl with
 | cons w1 w2 =>
   cases w2
   cases w1 with
   | list ho hall => exact ⟨_, _, ns, rfl, rfl, ho, ints_of_wellAll ns _ hall, hlen⟩

theorem post_true (l : OpenLaw) (args : List WData) : l.row.toRowW.claim.post args (.bool true) args = true :=
 postW_of (r := l.row.toRowW) (X := (true == true))
   (show WShape.has [] (.bool true) .bool = true by first | rfl | decide | simp [WShape.has, WShape.arms, WShape.armsAll])
   (show (WTm.eq .res (.lit (.bool true))).value [] { args := args, res := some (.bool true), after := args } = some (.bool (true == true)) from w_eq_bool (w_res rfl) w_lit) rfl
theorem attach_call {l : OpenLaw} {n : Nat} {q : Program} {loose : List Str} {XP : (Str → Option Value) → Heap → Prop} {YP : World → Heap → Prop} {d : DefRec}
   (hn : l.most = some n) (hdf : d.params.defaults = [])
   (call : ∀ (w : World) (s₀ s₁ : Shared) (mg mb : Str → Option Value) (fa : Addr) (o : Obj) (pm cd doc : Value) (a : Addr) (vs : List Value) (ns : List Int),
     Ground q loose [] XP w s₀ mg mb s₁.heap → YP w s₁.heap →
     s₁.heap.get? fa = some o → o.data = .func (docDef d.name d.params d.body d.scope pm cd doc) → s₁.heap.CodeRec cd d.name → mg d.name = some (.ref fa) →
     s₁.heap.get? a = some { cls := .type "list", data := .seq vs.toArray } → IntsAre vs ns → ns.length ≤ n → s₁.gens = #[] →
     codeAny (model l.prog w) callerA (.call (.ref fa) ⟨[.ref a], []⟩) (fun r s' => r = .ok (.ret (.bool true)) ∧ OldK s₁.heap s'.heap ∧ s'.os = s₁.os ∧ AllBare s'.gens) s₁) :
   WalkO q loose XP YP l.row.toRowW d [] (fun f vs => PySem.call f vs) := by
 intro w s₀ s₁ mg mb G Y fa o pm cd doc dV kV ho hd hcd hD hmg hg args vals as hpre hlay hrd hwl hlo
 obtain rfl : dV = .none := Dflts.none hD hdf
 obtain rfl : kV = .none := Dflts.noKw hD
 obtain ⟨a, vs, ns, rfl, rfl, hobj, hints, hlen⟩ := script_of hn hpre hwl
 refine enter_call (codeAny_mono (call w s₀ s₁ mg mb fa o pm cd doc a vs ns G Y ho (fd_plain hd) hcd hmg hobj hints hlen hg) fun r s' hq => ?_)
 obtain ⟨rfl, h2, h3, h4⟩ := hq
 exact ⟨.inl ⟨.bool true, .bool true, [], rfl, fun _ => rfl, .bool true, post_true l _, fun _ => ⟨List.Pairwise.nil, fun _ hm => (nomatch hm)⟩⟩, h2, h3, h4⟩
section
variable {prog : Program} {w : World} {A : Around} {E : Value → Shared → Prop} {s : Shared} {K : Frag}
end
end Att

namespace L2
open PySem PySem.Spec PyProof.Rows

theorem vals_ints : ∀ {vs : List Value} {ns : List Int}, IntsAre vs ns → Vals (ns.map V.int) vs
 | _, _, .nil => .nil
 | _, _, .cons n t h => .cons ⟨t, rfl⟩ (vals_ints h)
def Only (H : Hp) : Prop := ∀ b, H b = none ∨ ∃ o xs, H b = some (.frz o (.lst xs))
theorem law_call {P : Program} {w : World} {K : PySem.W.Frag} {mg mb : Str → Option Value} {CX : CXT} {k : Nat} {fa a : Addr} {fd : FuncData} {x : Str} {sp : Sp} {s₁ : Shared} {vs : List Value} {ns : List Int}
   (KX : K.In s₁.heap) (hns : s₁.heap.Ns mainGlobals mg) (hb : s₁.heap.Ns builtinsNs mb) (hbb : ∀ x : Str, x ≠ "__name__" → mb x = bootBuiltins x) (hlim : s₁.heap.NoLimit) (hg : s₁.gens = #[])
   (ha : s₁.heap.get? a = some { cls := .type "list", data := .seq vs.toArray }) (hi : IntsAre vs ns) (hl : ns.length ≤ sizeLine) (hr : Room k callerA)
   (F : ∀ base : Heap, K.In base → base.Ns mainGlobals mg → FnOk P w K mg base CX k fa fd [x] sp) (hbind : ∀ (s : Shared) (u : Value), BindsTo s fd ⟨[u], []⟩ [(x, u)])
   (hsp : ∀ H : Hp, Only H → SqL K H a (ns.map V.int) → sp [.ref a] H (fun v _ => v = .bl true) fun _ _ _ => False)
   (hCX : ∀ H e s', CX [] H s₁ (fun _ _ _ => False) e s' → False) :
   codeAny (model P w) callerA (.call (.ref fa) ⟨[.ref a], []⟩) (fun r s' => r = .ok (.ret (.bool true)) ∧ OldK s₁.heap s'.heap ∧ s'.os = s₁.os ∧ AllBare s'.gens) s₁ := by
 have rv := vals_ints hi
 have lenV := hi.length
 -- from an abstract heap in which nothing but the script may be tracked
 have core : ∀ H : Hp, Only H → SqL K H a (ns.map V.int) → HOk P w H s₁.heap → (∀ b, H b ≠ none → b = a) → (H a ≠ none → K.lookup a = none) →
     codeAny (model P w) callerA (.call (.ref fa) ⟨[.ref a], []⟩) (fun r s' => r = .ok (.ret (.bool true)) ∧ OldK s₁.heap s'.heap ∧ s'.os = s₁.os ∧ AllBare s'.gens) s₁ := by
   intro H hO hS hok hA hK
   have base_of : ∀ {b : Addr} {o : Obj}, s₁.heap.get? b = some o → H b = none → (hidT s₁.heap H).get? b = some o := fun e n => hidT_get e n
   have noA : ∀ {b : Addr} {o : Obj} {es : Array DictEntry} {ep : Nat}, s₁.heap.get? b = some o → o.data = .dict es ep → H b = none := fun {b o es ep} e d => by
     cases q : H b with
     | none => rfl
     | some u =>
       have e' : b = a := hA b (by rw [q]; simp)
       subst e'
       rw [ha] at e; cases e
       have d' : Data.seq vs.toArray _ = Data.dict es ep := d
       cases d'
   have nsK : ∀ {b : Addr} {m : Str → Option Value}, s₁.heap.Ns b m → (hidT s₁.heap H).Ns b m := fun {b m} ⟨o, es, ep, e, d, r⟩ => ⟨o, es, ep, base_of e (noA e d), d, r⟩
   have hKb : K.In (hidT s₁.heap H) := fun b o e => base_of (KX b o e) (by
     cases q : H b with
     | none => rfl
     | some u =>
       have e' : b = a := hA b (by rw [q]; simp)
       subst e'
       rw [hK (by rw [q]; simp)] at e; cases e)
   have hM : Mod K mg (hidT s₁.heap H) := ⟨hKb, nsK hns, ⟨mb, nsK hb, hbb⟩, let ⟨mc, h1, h2⟩ := hlim; ⟨mc, nsK h1, h2⟩⟩
   have e0 : Env0 P w K mg (hidT s₁.heap H) callerA [] s₁ H := ⟨rfl, hM, fun b o e => of_hidT e, Nat.le_of_eq (hidT_size _ _), trivial, fun b hb => absurd (show b ∈ ([] : List Addr) from hb) (by simp), hok, .of_eq hg⟩
   refine codeAny_mono ((F _ hKb (nsK hns)).run callerA [] s₁ H ⟨[.ref a], []⟩ [.ref a] [.ref a] _ _ hr e0 (hbind s₁ (.ref a)) (.cons rfl .nil) (hsp H hO hS)) fun r s' h => ?_
   cases r with
   | error e => exact (hCX H e s' h).elim
   | ok fl =>
     cases fl with
     | next => exact False.elim h
     | brk => exact False.elim h
     | cont => exact False.elim h
     | ret u =>
       obtain ⟨v, H', os, bare, un, hok', r', q⟩ := h
       have q' : v = .bl true := q
       subst q'
       obtain rfl : u = Value.bool true := r'
       refine ⟨rfl, OldK.of_keep fun b o e => ?_, os, bare⟩
       cases q : H b with
       | none => exact un.keep b o e q (by intro z; exact absurd (show b ∈ ([] : List Addr) from z) (by simp)) (by simp)
       | some u =>
         rcases hO b with z | ⟨ob, xs, z⟩
         · rw [q] at z; cases z
         · have z2 := un.frzs b ob _ z
           obtain ⟨e1, _⟩ := hok b _ z
           obtain ⟨e2, _⟩ := hok' b _ z2
           rw [e] at e1; cases e1
           exact e2
 cases hk : K.lookup a with
 | some o =>
   -- the script is one of the module's own objects
   have e := KX a o hk
   rw [ha] at e
   cases e
   refine core (fun _ => none) (fun _ => .inl rfl) (.inr ⟨_, vs.toArray, _, hk, rfl, rfl, rfl, by rw [List.size_toArray, lenV]; exact hl, by simpa using rv⟩) (fun b u z => by have z' : (none : Option HO) = some u := z; cases z') (fun b z => absurd rfl z) fun z => absurd rfl z
 | none =>
   refine core (fun b => if b = a then some (.frz { cls := .type "list", data := .seq vs.toArray } (.lst (ns.map V.int))) else none) (fun b => ?_) (.inl (.inr ⟨{ cls := .type "list", data := .seq vs.toArray }, if_pos rfl⟩)) (fun b u z => ?_) (fun b z => ?_) fun _ => hk
   · by_cases hb : b = a
     · exact .inr ⟨_, _, if_pos hb⟩
     · exact .inl (if_neg hb)
   · by_cases hb : b = a
     · have z' := (if_pos hb).symm.trans z
       cases z'
       subst hb
       exact ⟨ha, by rw [List.length_map]; exact hl, vs, _, rv, ha⟩
     · have z' := (if_neg hb).symm.trans z
       cases z'
   · by_cases hb : b = a
     · exact hb
     · exact absurd (if_neg hb) z
end L2

namespace L2
open PySem PySem.Spec PyProof.Rows

abbrev KOf {K : PySem.W.Frag} {h : Heap} (_ : K.In h) : PySem.W.Frag := K
theorem walk_of {l : PySem.W.OpenLaw} {n k : Nat} {q : Program} {loose : List Str} {XP : (Str → Option Value) → Heap → Prop} {YP : World → Heap → Prop} {d : DefRec} {K : Params → PySem.W.Frag} {CX : World → CXT} {sp : World → Sp} {x : Str}
   (hn : l.most = some n) (hn2 : n ≤ sizeLine) (hdf : d.params.defaults = []) (hr : Room k callerA)
   (hY : ∀ (w : World) (h : Heap), YP w h → (K w.params).In h)
   (F : ∀ (w : World) (mg : Str → Option Value) (fa : Addr) (h : Heap), (K w.params).In h → h.Ns mainGlobals mg → mg d.name = some (.ref fa) →
     ∃ fd : FuncData, (∀ (s : Shared) (u : Value), BindsTo s fd ⟨[u], []⟩ [(x, u)]) ∧
       ∀ base : Heap, (K w.params).In base → base.Ns mainGlobals mg → FnOk l.prog w (K w.params) mg base (CX w) k fa fd [x] (sp w))
   (hsp : ∀ (w : World) (H : Hp) (a : Addr) (ns : List Int), ns.length ≤ n → Only H → SqL (K w.params) H a (ns.map V.int) → sp w [.ref a] H (fun v _ => v = .bl true) fun _ _ _ => False)
   (hCX : ∀ (w : World) (H : Hp) (s : Shared) (e : Value) (s' : Shared), CX w [] H s (fun _ _ _ => False) e s' → False) :
   PySem.W.WalkO q loose XP YP l.row.toRowW d [] (fun f vs => PySem.call f vs) := by
 refine Att.attach_call hn hdf fun w s₀ s₁ mg mb fa o pm cd doc a vs ns G Y ho hd hcd hmg hobj hints hlen hg => ?_
 have KX := hY w _ Y
 obtain ⟨fd, hb, hF⟩ := F w mg fa _ KX G.T.g hmg
 exact law_call KX G.T.g G.T.b G.T.builtins G.T.nolimit hg hobj hints (Nat.le_trans hlen hn2) hr hF hb (fun H hO hS => hsp w H a ns hlen hO hS) fun H e s' => hCX w H s₁ e s'
end L2

/- THE LAST THEOREM (shape; LID, My.* are yours):
   My.Adr: a structure of the addresses that your layer names (classes, functions); My.Txt K t: a structure (Prop) of the equations over K;
   My.txt_mk : {K} {implicit addresses ..} (e1 : nsIn K mainGlobals "law" = some (some (.ref f))) (e2 : K.lookup f = some ⟨oc, od, .func (fnOf "law" "law" params body scope dV kV doc pm an cdv ct), sl⟩) (e3 : codeIn K cdv "law" = true) .. : ∃ t, My.Txt K t

set_option maxRecDepth 100000 in
set_option maxHeartbeats 0 in
theorem PySem.Challenge.cw_LID_holds : PySem.Challenge.rw_LID.Holds := by
  w_on; o_law; k_head; (case hw => w_witness2)
  k_fill
  refine L2.walk_of (l := PySem.Challenge.rw_LID) (n := 63) (k := 40) (x := "script") (CX := fun w => ..) (sp := fun _ => My.sp_law) rfl (by decide) rfl ⟨rfl, by decide, by decide⟩ (fun w h Y => PySem.W.kIn_of Y) ?F ?S ?C
  case F =>
    intro w mg fa h KX G hmg
    have T : ∃ t, My.Txt (L2.KOf KX) t := by
      dsimp only [L2.KOf]                          -- K must stand as «<heap const> w.params» for k_is
      refine' My.txt_mk ?e1 ?e2 ?e3 ..
      (case e1 => PySem.W.k_is)                    -- in the order: a name -> its address -> its object -> its parts
      (case e2 => PySem.W.k_is)
      ..
    obtain ⟨t, T⟩ := T
    have e0 := hmg.symm.trans (PySem.W.mg_of KX G T.law)
    cases e0                                       -- fa is the law's own address
    exact ⟨_, fun s u => .of_eq rfl, fun base kb nb => My.law_fn T kb nb⟩     -- if «.of_eq rfl» comes too early: refine' ⟨_, ?b, fun base kb nb => My.law_fn T kb nb⟩; exact fun s u => .of_eq rfl
  case S => exact fun w H a ns hl hO hS => ..
  case C => exact ..
(the tactic k_is has no namespace: write k_is) -/
namespace L2
open PySem PySem.Spec PyProof.Rows
def inClass (s : Stmt) (j : Nat) : Stmt := match s with
 | .ClassDef _ _ _ body _ _ _ _ _ _ _ => body.getD j (.Pass ⟨0, 0, 0, 0⟩)
 | _ => .Pass ⟨0, 0, 0, 0⟩
def defArgs (s : Stmt) : Arguments := match s with
 | .FunctionDef _ a _ _ _ _ _ _ _ _ => a
 | _ => { posonlyargs := [], args := [], vararg := none, kwonlyargs := [], kw_defaults := [], kwarg := none, defaults := [] }
def defBody (s : Stmt) : List Stmt := match s with
 | .FunctionDef _ _ b _ _ _ _ _ _ _ => b
 | _ => []
def defScope (s : Stmt) : Scope := match s with
 | .FunctionDef _ _ _ _ _ _ sc _ _ _ => sc
 | _ => { kind := .function, names := [], isGenerator := false, isCoroutine := false }
abbrev CX0 : CXT := fun _ _ _ _ _ _ => False
abbrev E0 : XK := fun _ _ _ => False
theorem pass0 {X : Cx} : Passes CX0 X E0 := fun _ _ _ _ _ _ _ h => h.elim
structure Fun (K : PySem.W.Frag) (x qual : Str) (st : Stmt) (f : Addr) (fd : FuncData) : Prop where
 ex : ∃ (oc : Value) (od : Option Addr) (kV doc pm : Value) (an : Option Addr) (cdv ct : Value) (osl : Array (Option Value)),
   fd = PySem.W.fnOf x qual (defArgs st) (defBody st) (defScope st) .none kV doc pm an cdv ct ∧ K.lookup f = some ⟨oc, od, .func fd, osl⟩ ∧ PySem.W.codeIn K cdv qual = true
 kp : PySem.W.keepIn K (.ref f) = true
section
variable {P : Program} {w : World} {K : PySem.W.Frag} {mg : Str → Option Value} {base : Heap}
theorem Fun.ok {x qual : Str} {st : Stmt} {f : Addr} {fd : FuncData} {N ps : List Str} {k : Nat} {sp : Sp} (F : Fun K x qual st f fd) (S : FnScope N ps (defScope st)) (len : ∀ vs H Q E, sp vs H Q E → vs.length = ps.length)
   (hbody : ∀ (cdv : Value) (A : Around) (outer : List Env) (s : Shared) (H : Hp) (vs : List V) (Q : VK) (E : XK), Room k (A.deeper (envOfC qual (defScope st) s.heap.objs.size f cdv)) → sp vs H Q E →
     ∃ t, PSs (cxOf CX0 P w K mg base N qual (defScope st) f cdv A outer s H E).nox (defBody st) t ∧ t { nx := fun _ H' => Q .non H', rt := Q } (start N vs) H) : FnOk P w K mg base CX0 (k + 1) f fd ps sp := by
 obtain ⟨oc, od, kV, doc, pm, an, cdv, ct, osl, rfl, lk, hcd⟩ := F.ex
 refine fn_of lk hcd S len fun A outer s H vs Q E hr hsp => ?_
 obtain ⟨t, h, q⟩ := hbody cdv A outer s H vs Q E hr hsp
 exact ⟨t, h.nox, q⟩
theorem Fun.binds {x qual : Str} {st : Stmt} {f : Addr} {fd : FuncData} {ps : List Str} (F : Fun K x qual st f fd)
   (h : ∀ (kV doc pm : Value) (an : Option Addr) (cdv ct : Value) (us : List Value), us.length = ps.length → bindArgs (PySem.W.fnOf x qual (defArgs st) (defBody st) (defScope st) .none kV doc pm an cdv ct) ⟨us, []⟩ = pure (ps.zip us)) : Binds K fd ps [] := by
 obtain ⟨oc, od, kV, doc, pm, an, cdv, ct, osl, rfl, lk, hcd⟩ := F.ex
 exact .all (h kV doc pm an cdv ct)
theorem fun_mk {x qual : Str} {st : Stmt} {f : Addr} {oc : Value} {od an : Option Addr} {osl : Array (Option Value)} {kV doc pm cdv ct : Value} (l : K.lookup f = some ⟨oc, od, .func (PySem.W.fnOf x qual (defArgs st) (defBody st) (defScope st) .none kV doc pm an cdv ct), osl⟩)
 (c : PySem.W.codeIn K cdv qual = true) (k : PySem.W.keepIn K (.ref f) = true) : Fun K x qual st f (PySem.W.fnOf x qual (defArgs st) (defBody st) (defScope st) .none kV doc pm an cdv ct) := ⟨⟨oc, od, kV, doc, pm, an, cdv, ct, osl, rfl, l, c⟩, k⟩
end
theorem hu_of {A : Around} {k : Nat} (hr : Room k A) : A.units + 1 < cLine := Nat.lt_of_le_of_lt (Nat.add_le_add_left (by decide : 1 ≤ 64) _) hr.units
section
variable {X : Cx}
theorem pv (i : Nat) {x : Str} {pos : Pos} (hN : X.N[i]? = some x := by rfl) (hv : Vis X.env.scope x := by first | exact Or.inl rfl | exact Or.inr (Or.inl rfl) | exact Or.inr (Or.inr rfl)) (hd : (x == ("__debug__" : Str)) = false := by decide)
 (hcd : (x == ("__classdict__" : Str)) = false := by decide) : PE X (.Name x pos) (tVar i) := pe_var hN hv hd hcd
end
theorem iteF {A B : Prop} (h : B) : if false = true then A else B := by
 rw [if_neg Bool.false_ne_true]
 exact h
theorem iteT {A B : Prop} (h : A) : if true = true then A else B := by
 rw [if_pos rfl]
 exact h
theorem ite2 {c A B : Prop} [Decidable c] (h1 : c → A) (h2 : ¬ c → B) : if c then A else B := by
 by_cases h : c
 · rw [if_pos h]
   exact h1 h
 · rw [if_neg h]
   exact h2 h
theorem iteNS {c A B : Prop} [Decidable c] (hc : c) (h : B) : if (!decide c) = true then A else B := by
 rw [decide_eq_true hc]
 exact iteF h
def Same (H H' : Hp) : Prop := ∀ b o, H b = some o → H' b = some o
theorem Same.refl (H : Hp) : Same H H := fun _ _ h => h
theorem Same.trans {H H1 H2 : Hp} (a : Same H H1) (b : Same H1 H2) : Same H H2 := fun c o h => b c o (a c o h)
theorem Same.free {H H' : Hp} (e : Same H H') {l : Addr} (h : H' l = Option.none) : H l = Option.none := by
 cases q : H l with
 | none => rfl
 | some o =>
   rw [e l o q] at h
   cases h
theorem Same.seq {K : PySem.W.Frag} {H H' : Hp} {a : Addr} {xs : List V} (e : Same H H') (h : SqL K H a xs) : SqL K H' a xs := by
 rcases h with (h | ⟨o, h⟩) | h
 · exact .inl (.inl (e _ _ h))
 · exact .inl (.inr ⟨o, e _ _ h⟩)
 · exact .inr h

end L2

set_option Elab.async false
set_option linter.all false
set_option maxRecDepth 100000
set_option maxHeartbeats 4000000
namespace L2
open PySem PySem.Spec PyProof.Rows
def closOf (env : Env) : List (Str × NameKind) → List (Str × Addr) → List (Str × Addr)
 | [], cs => cs
 | (n, k) :: r, cs => closOf env r (if k == .free then (n, (env.cells.lookup n).getD 0) :: cs else cs)
theorem closureFor_eq {scope : Scope} {env : Env} (h : ∀ n, (n, NameKind.free) ∈ scope.names → ∃ c, env.cells.lookup n = some c) :
   closureFor scope env = pure (closOf env scope.names []) := by
 simp only [closureFor]
 have key : ∀ (l : List (Str × NameKind)) (cs : List (Str × Addr)), (∀ n, (n, NameKind.free) ∈ l → ∃ c, env.cells.lookup n = some c) →
     (forIn l cs (fun x r => if (x.2 == NameKind.free) = true then (cellOf env x.1 >>= fun a => pure (ForInStep.yield ((x.1, a) :: r))) else pure (ForInStep.yield r)) : Sem (List (Str × Addr))) = pure (closOf env l cs) := by
   intro l
   induction l with
   | nil => intro cs _; rfl
   | cons x l ih =>
     intro cs hl
     obtain ⟨n, k⟩ := x
     have hl' : ∀ n, (n, NameKind.free) ∈ l → ∃ c, env.cells.lookup n = some c := fun n hn => hl n (List.mem_cons_of_mem _ hn)
     rw [List.forIn_cons]
     by_cases hk : k = .free
     · subst hk
       obtain ⟨c, hc⟩ := hl n List.mem_cons_self
       have e1 : cellOf env n = pure c := by unfold cellOf; rw [hc]
       simp only [beq_self_eq_true, if_true, e1, pure_bind]
       rw [ih _ hl']
       simp only [closOf, beq_self_eq_true, if_true, hc, Option.getD_some]
     · have hb : (k == NameKind.free) = false := by simpa using hk
       simp only [hb, Bool.false_eq_true, if_false, pure_bind]
       rw [ih _ hl']
       simp only [closOf, hb, Bool.false_eq_true, if_false]
 exact (congrArg (fun z => z >>= fun r => pure r) (key scope.names [] h)).trans rfl
theorem closOf_sub {env : Env} : ∀ (l : List (Str × NameKind)) (cs : List (Str × Addr)), (∀ n, (n, NameKind.free) ∈ l → ∃ c, env.cells.lookup n = some c) → (∀ x c, cs.lookup x = some c → env.cells.lookup x = some c) →
   ∀ x c, (closOf env l cs).lookup x = some c → env.cells.lookup x = some c
 | [], cs, _, h, x, c, e => h x c e
 | (n, k) :: r, cs, hl, h, x, c, e => by
   refine closOf_sub r _ (fun n hn => hl n (List.mem_cons_of_mem _ hn)) ?_ x c e
   intro y d hy
   by_cases hk : (k == NameKind.free) = true
   · rw [if_pos hk] at hy
     have hk' : k = .free := by simpa using hk
     subst hk'
     obtain ⟨c', hc'⟩ := hl n List.mem_cons_self
     rw [hc', Option.getD_some, List.lookup_cons] at hy
     cases hyn : y == n with
     | true =>
       rw [hyn] at hy
       have : y = n := by simpa using hyn
       subst this
       rw [hc']; exact hy
     | false => rw [hyn] at hy; exact h y d hy
   · rw [if_neg hk] at hy; exact h y d hy
theorem closOf_some {env : Env} : ∀ (l : List (Str × NameKind)) (cs : List (Str × Addr)) (x : Str), ((x, NameKind.free) ∈ l ∨ ∃ c, cs.lookup x = some c) → ∃ c, (closOf env l cs).lookup x = some c
 | [], cs, x, h => by
   rcases h with h | h
   · cases h
   · exact h
 | (n, k) :: r, cs, x, h => by
   refine closOf_some r _ x ?_
   rcases h with h | ⟨c, h⟩
   · rcases List.mem_cons.mp h with e | h
     · cases e
       refine .inr ⟨(env.cells.lookup n).getD 0, ?_⟩
       simp [List.lookup_cons]
     · exact .inl h
   · right
     by_cases hk : (k == NameKind.free) = true
     · rw [if_pos hk, List.lookup_cons]
       cases x == n with
       | true => exact ⟨_, rfl⟩
       | false => exact ⟨c, h⟩
     · rw [if_neg hk]; exact ⟨c, h⟩
theorem lookup_relabel {env : Env} (x : Str) : ∀ (names : List (Str × NameKind)),
   (names.map fun (n, k) => if (k == NameKind.free && env.scope.kind == .function && env.kindOf n == some .cell) then (n, NameKind.cell) else (n, k)).lookup x =
     (names.lookup x).map fun k => if (k == NameKind.free && env.scope.kind == .function && env.kindOf x == some .cell) then NameKind.cell else k
 | [] => rfl
 | (n, k) :: r => by
   have ih := lookup_relabel (env := env) x r
   show List.lookup x ((if (k == NameKind.free && env.scope.kind == .function && env.kindOf n == some .cell) = true then (n, NameKind.cell) else (n, k)) :: _) = _
   cases hx : x == n with
   | true =>
     have e : x = n := by simpa using hx
     subst e
     by_cases hc : (k == NameKind.free && env.scope.kind == .function && env.kindOf x == some .cell) = true
     · rw [if_pos hc]; simp only [List.lookup_cons, beq_self_eq_true, Option.map_some, if_pos hc]
     · rw [if_neg hc]; simp only [List.lookup_cons, beq_self_eq_true, Option.map_some, if_neg hc]
   | false =>
     by_cases hc : (k == NameKind.free && env.scope.kind == .function && env.kindOf n == some .cell) = true
     · rw [if_pos hc]; simp only [List.lookup_cons, hx]; exact ih
     · rw [if_neg hc]; simp only [List.lookup_cons, hx]; exact ih

structure CompScope (XN : List Str) (xsc : Scope) (N : List Str) (nv : Nat) (js : List Nat) (scope : Scope) : Prop where
 kind : scope.kind = .function
 cell : ∀ y ∈ scope.names, y.2 ≠ .cell
 loc : ∀ y ∈ scope.names, y.2 = .local → scope.names.lookup y.1 = some .local
 free : ∀ y ∈ scope.names, y.2 = .free → (xsc.names.lookup y.1 = some .cell ∨ xsc.names.lookup y.1 = some .free)
 nd : N.Nodup
 len : N.length = nv + js.length
 pl : js.map (fun j => XN[j]?) = (N.drop nv).map some
 fr : ∀ x ∈ N.drop nv, scope.names.lookup x = some .free

abbrev cxComp (X : Cx) (N : List Str) (scope : Scope) (C : Addr) (s : Shared) (H : Hp) (fp : List Addr) : Cx where
 prog := X.prog
 w := X.w
 K := X.K
 mg := X.mg
 base := X.base
 A := X.A
 N := N
 s₀ := s
 H₀ := H
 env := compEnvC scope (closOf X.env scope.names []) C X.env
 outer := X.stack
 stack := X.stack
 ex := fp
 fn := fun _ => false
 calm := X.calm
 pn := []
 xe := fun _ _ => False
def compSt (nv : Nat) (js : List Nat) (σ : St) : St := List.replicate nv none ++ js.map fun j => (σ[j]?).getD none

section
variable {X : Cx} {pins : List (Addr × Obj)} {σ : St} {H : Hp} {s : Shared}
theorem comp_start {N : List Str} {nv : Nat} {js : List Nat} {scope : Scope} {fp : List Addr} {h1 : Heap} {tk : Nat} (I : Inv X pins σ H s) (S : CompScope X.N X.env.scope N nv js scope) (hf : ∀ b ∈ fp, FpOk X pins H b) (hfl : ∀ b ∈ fp, b < s.heap.objs.size)
   (keep : ∀ b o, s.heap.get? b = some o → h1.get? b = some o) (ns : h1.Ns s.heap.objs.size fun _ => none) :
   Inv (cxComp X N scope s.heap.objs.size s H fp) [] (compSt nv js σ) H { s with heap := h1, toks := tk } := by
 have hfr : ∀ n, (n, NameKind.free) ∈ scope.names → ∃ c, X.env.cells.lookup n = some c := fun n hn => I.ok.has n (S.free _ hn rfl)
 have sub : ∀ x c, (closOf X.env scope.names []).lookup x = some c → X.env.cells.lookup x = some c := closOf_sub scope.names [] hfr (fun x c z => by cases z)
 have nocell : ∀ x, scope.names.lookup x ≠ some .cell := fun x z => S.cell _ (PySem.mem_of_lookup z) rfl
 have hasx : ∀ x, (relabel scope X.env).names.lookup x = some .cell ∨ (relabel scope X.env).names.lookup x = some .free → scope.names.lookup x = some .free := by
   intro x hx
   have e := lookup_relabel (env := X.env) x scope.names
   have hx' : (relabel scope X.env).names.lookup x = _ := e
   rw [hx'] at hx
   cases q : scope.names.lookup x with
   | none => rw [q] at hx; rcases hx with hx | hx <;> cases hx
   | some k =>
     rw [q, Option.map_some] at hx
     cases k <;> first | rfl | (exact absurd q (nocell x)) | (exfalso; rcases hx with hx | hx <;> simp at hx)
 refine ⟨⟨I.ok.mod, S.kind, I.ok.glob, I.ok.blt, Nat.le_refl _, fun x y c h1 h2 => I.ok.inj x y c (sub _ _ h1) (sub _ _ h2), fun x hx => ?_, fun x c z => (by cases z), I.ok.hd, I.ok.frames, .inl rfl, fun b hb => ?_, fun b o e => ?_, ?_, fun b o e hb => ?_, fun b hb z => ?_, I.stack, I.stkFree⟩,
   rfl, I.bare, Un.kept keep, ⟨_, ns, fun i x v e1 e2 e3 => ?_⟩, fun x c e => ?_, I.hok.fresh (Nat.le_refl _), fun x c e => I.freeC x c (sub _ _ e), fun p hp => absurd (show p ∈ ([] : List (Addr × Obj)) from hp) (by simp), I.hok.kept keep, ?_⟩
 · exact closOf_some _ _ _ (.inl (PySem.mem_of_lookup (hasx x hx)))
 · obtain ⟨f0, f1, f2, f3, f4, f5⟩ := hf b hb
   exact ⟨Nat.ne_of_lt (hfl b hb), fun x c e => f4 x c (sub x c e)⟩
 · exact I.bs b o e
 · exact Nat.le_trans I.ok.bsz I.sz
 · obtain ⟨f0, f1, f2, f3, f4, f5⟩ := hf b hb
   rcases f3 with z | z
   · exact I.ok.noex b o e z
   · exact absurd (Nat.lt_of_lt_of_le (Heap.lt_size e) (Nat.le_trans I.ok.bsz z)) (Nat.lt_irrefl _)
 · obtain ⟨f0, f1, f2, f3, f4, f5⟩ := hf b hb
   rcases List.mem_cons.mp (I.stkSub b z) with q | q
   · exact f1 q
   · exact f2 q
 · -- a name that the block reads from outside
   have hi : ¬ i < nv := fun hlt => by
     unfold compSt at e2
     rw [List.getElem?_append_left (by simpa using hlt), List.getElem?_replicate, if_pos hlt] at e2
     cases e2
   obtain ⟨k, rfl⟩ : ∃ k, i = nv + k := ⟨i - nv, by omega⟩
   unfold compSt at e2
   rw [List.getElem?_append_right (by simp), List.length_replicate, Nat.add_sub_cancel_left, List.getElem?_map] at e2
   cases hj : js[k]? with
   | none => rw [hj] at e2; cases e2
   | some j =>
     rw [hj, Option.map_some] at e2
     have e2' : (σ[j]?).getD none = some v := Option.some.inj e2
     have hσ : σ[j]? = some (some v) := by
       cases q : σ[j]? with
       | none => rw [q] at e2'; cases e2'
       | some z => rw [q] at e2'; exact congrArg some e2'
     have hd : (N.drop nv)[k]? = some x := by rw [List.getElem?_drop]; exact e1
     have hX : X.N[j]? = some x := by
       have q := congrArg (fun l => l[k]?) S.pl
       simp only [List.getElem?_map, hj, hd, Option.map_some] at q
       exact Option.some.inj q
     have hfx := S.fr x (List.mem_of_getElem? hd)
     have kx := S.free _ (PySem.mem_of_lookup hfx) rfl
     obtain ⟨m, _, hl⟩ := I.loc
     obtain ⟨u, r, l⟩ := hl j x v hX hσ (.inr kx)
     refine ⟨u, r, ?_⟩
     rcases l with ⟨k1, _⟩ | ⟨_, c, hc, hcell⟩
     · exfalso
       have k1' : X.env.scope.names.lookup x = some .local := k1
       rcases kx with z | z <;> (rw [k1'] at z; cases z)
     · obtain ⟨c', hc'⟩ := closOf_some (env := X.env) scope.names [] x (.inl (PySem.mem_of_lookup hfx))
       have e := sub _ _ hc'
       rw [hc] at e; cases e
       refine .inr ⟨?_, c, hc', hcell.keeps keep⟩
       have e := lookup_relabel (env := X.env) x scope.names
       have e' : (relabel scope X.env).names.lookup x = _ := e
       rw [hfx, Option.map_some] at e'
       show (relabel scope X.env).names.lookup x = some .cell ∨ (relabel scope X.env).names.lookup x = some .free
       rw [e']
       split
       · exact .inl rfl
       · exact .inr rfl
 · obtain ⟨v, q⟩ := I.cell x c (sub _ _ e)
   exact ⟨v, q.keeps keep⟩
 · unfold compSt
   show _ = N.length
   rw [List.length_append, List.length_replicate, List.length_map, S.len]
end
end L2

set_option Elab.async false
set_option linter.all false
set_option maxRecDepth 100000
set_option maxHeartbeats 4000000
namespace L2
open PySem PySem.Spec PyProof.Rows
def PIfs (X : Cx) (ifs : List Expr) (t : TT) : Prop :=
 ∀ (pins : List (Addr × Obj)) (s : Shared) (σ : St) (H : Hp) (Q : Bool → Hp → Prop), Inv X pins σ H s → t σ H Q →
   wpAny (model X.prog X.w) X.A (forIn ifs true fun c r => if r = true then do let ok ← isTrue c X.env (eval c X.env); pure (ForInStep.yield ok) else pure (ForInStep.yield r)) (TP X pins σ Q) X.xe s
def tYes : TT := fun _ H Q => Q true H
theorem pif_nil {X : Cx} : PIfs X [] tYes := fun _ _ _ H _ I h => wpAny_tests_nil ⟨H, I, h⟩
def CompR (J : It) (g : TG) (tt : TT) (te : TE) (Q : VK) (D : Addr) (τ : St) (H : Hp) : Prop :=
 ∃ W : Nat → Nat → List V → St → Hp → Prop, (∃ m, W 0 m [] τ (upd H D (.lst []))) ∧ ∀ i m ys τ H, W i m ys τ H → H D = some (.lst ys) ∧
   ((J.stop i H ∧ Q (.ref D) H) ∨ (J.go i H ∧ ∃ N : List V → St → Hp → Prop, (∀ zs σ' H', N zs σ' H' → ∃ m', m' < m ∧ W (i + 1) m' zs σ' H') ∧ ∀ x H', J.yld i H x H' → g x τ H' fun τ2 H2 => tt τ2 H2 fun b H3 =>
     if b = true then te τ2 H3 fun y H4 => H4 D = some (.lst ys) ∧ ys.length < sizeLine ∧ N (ys ++ [y]) τ2 (upd H4 D (.lst (ys ++ [y])))
     else N ys τ2 H3))
def tComp (wi : TI) (g : TG) (tt : TT) (te : TE) (nv : Nat) (js : List Nat) : TE := fun σ H Q => wi σ H fun J H1 => ∀ D, H1 D = none → CompR J g tt te Q D (compSt nv js σ) H1

theorem loop_tests {prog : Program} {w : World} {A : Around} {R : Result → Shared → Prop} {s : Shared} {elt target iter : Expr} {ifs : List Expr} {scope : Scope} {pos : Pos} {it acc : Value} {env : Env} (I : Nat → Shared → Prop)
   (turn : ∀ n s, I n s → wpAny (model prog w) A (pyNext it) (fun r s₁ => match r with
     | none => R (.ok .next) s₁
     | some v => wpAny (model prog w) A (letOwnedTupleGo target it v) (fun _ s₁' => wpAny (model prog w) A (assign target env v) (fun _ s₂ =>
         wpAny (model prog w) A (forIn ifs true fun c r => if r = true then do let ok ← isTrue c env (eval c env); pure (ForInStep.yield ok) else pure (ForInStep.yield r)) (fun ok s₃ =>
           if ok = true then wpAny (model prog w) A (eval elt env) (fun x s₄ =>
             wpAny (model prog w) A (call (.builtin "list.append") [acc, x]) (fun _ s₅ => ∃ m, m < n ∧ I m s₅) (fun _ _ => False) s₄) (fun _ _ => False) s₃
           else ∃ m, m < n ∧ I m s₃) (fun _ _ => False) s₂) (fun _ _ => False) s₁') (fun _ _ => False) s₁) (fun _ _ => False) s)
   (n : Nat) (h : I n s) :
   codeAny (model prog w) A (.compLoop (.ListComp elt [⟨target, iter, ifs, 0⟩] scope pos) 0 it acc env) R s := by
 refine codeAny_loop rfl I (fun n s hI => ?_) n h
 show wpAny _ A ((compTurn (.ListComp elt [⟨target, iter, ifs, 0⟩] scope pos) 0 it acc env).onRaise (fun x => do noteFrame x env; theTreesLotGoes x)) _ _ s
 refine wpAny_noted (wpAny_mono (E := fun _ _ => False) ?_ (fun _ _ q => q) fun _ _ q => q.elim)
 rw [compTurn_list]
 refine wpAny_bind (wpAny_standAt (wpAny_bind (wpAny_mono (turn n s hI) (fun r s₁ h₁ => ?_) fun _ _ h' => h')))
 cases r with
 | none => exact wpAny_pure h₁
 | some v =>
   refine wpAny_bind (wpAny_mono h₁ (fun _ s₁' h₁' => ?_) fun _ _ h' => h')
   refine wpAny_bind (wpAny_mono h₁' (fun _ s₂ h₂ => wpAny_bind (wpAny_mono h₂ (fun ok s₃ h₃ => ?_) fun _ _ h' => h')) fun _ _ h' => h')
   cases ok with
   | false => exact wpAny_pure ⟨rfl, h₃⟩
   | true =>
     exact wpAny_bind (wpAny_bind (wpAny_mono h₃ (fun x s₄ h₄ => wpAny_bind (wpAny_mono h₄ (fun _ s₅ h₅ => wpAny_pure (wpAny_pure ⟨rfl, h₅⟩)) fun _ _ h' => h')) fun _ _ h' => h'))

section
variable {X : Cx} {elt tg iter : Expr} {ifs : List Expr} {scope : Scope} {pos : Pos} {N : List Str} {nv : Nat} {js : List Nat} {wi : TI} {g : TG} {tt : TT} {te : TE}

theorem comp_block {pins : List (Addr × Obj)} {σ : St} {H : Hp} {s : Shared} {Q : VK} {it : Addr} {fp : List Addr} {tn : Nat → Heap → Prop} {J : It} {E : Value → Shared → Prop} {RR : Value → Addr → Result → Shared → Prop} (hc : X.calm = true)
   (S : CompScope X.N X.env.scope N nv js scope) (hg : ∀ C s H fp, PG (cxComp X N scope C s H fp) tg g) (ht : ∀ C s H fp, PIfs (cxComp X N scope C s H fp) ifs tt) (he : ∀ C s H fp, PE (cxComp X N scope C s H fp) elt te)
   (I : Inv X pins σ H s) (T : Turn X.prog X.w X.K tg J fp it tn) (st : tn 0 s.heap) (hf : ∀ b ∈ fp, FpOk X pins H b) (hR : ∀ D, H D = none → CompR J g tt te Q D (compSt nv js σ) H)
   (hRR : ∀ D C H' s' m, Inv X pins σ H' s' → FpOk X pins H' C → s'.heap.Ns C m → Q (.ref D) H' → RR (.ref D) C (.ok .next) s') :
   wpAny (model X.prog X.w) X.A (newList []) (fun acc s₃ => wpAny (model X.prog X.w) X.A (newFunctionEnv scope X.env.globals (closOf X.env scope.names []) [] X.env.qual none .none (some X.env)) (fun cenv s₄ =>
     codeAny (model X.prog X.w) X.A (.compStart (.ListComp elt [⟨tg, iter, ifs, 0⟩] scope pos) 0 (.ref it) acc { cenv with scope := relabel scope X.env }) (RR acc cenv.locals) s₄) E s₃) E s := by
 refine wpAny_newObj_type (wpAny_newFunctionEnv S.cell (by intro y hy; simp at hy) (fun h₁ hns₁ hsb₁ => ?_) S.kind)
 have I3 : Inv X pins σ (upd H s.heap.objs.size (.lst [])) { s with heap := s.heap.push { cls := .type "list", data := .seq ([] : List Value).toArray } } := I.lnew (t' := s.toks) (its := []) .nil (Nat.zero_le _)
 have hD := I.fresh
 obtain ⟨W, ⟨m0, w0⟩, turn⟩ := hR s.heap.objs.size hD
 have ho := T.obj 0 s.heap st
 have hfl0 : ∀ b ∈ fp, b < s.heap.objs.size := fun b hb => let ⟨o, e, _⟩ := ho b hb; Heap.lt_size e
 have hf3 : ∀ b ∈ fp, FpOk X pins (upd H s.heap.objs.size (.lst [])) b := fun b hb => ⟨by rw [upd_ne (Nat.ne_of_lt (hfl0 b hb))]; exact (hf b hb).1, (hf b hb).2⟩
 generalize hs3 : ({ s with heap := s.heap.push { cls := .type "list", data := .seq ([] : List Value).toArray } } : Shared) = s3 at I3 hns₁ hsb₁
 have e3 : s3.heap = s.heap.push { cls := .type "list", data := .seq ([] : List Value).toArray } := by rw [← hs3]
 have hfl : ∀ b ∈ fp, b < s3.heap.objs.size := fun b hb => by rw [e3, Heap.size_push]; exact Nat.lt_succ_of_lt (hfl0 b hb)
 have keep : ∀ b o, s3.heap.get? b = some o → h₁.get? b = some o := fun b o e => hsb₁.extBut b o (Nat.ne_of_lt (Heap.lt_size e)) (Heap.get?_push_of_some _ e)
 have J0 := comp_start (tk := s3.toks + ([] : List (Str × Value)).length) I3 S hf3 hfl keep hns₁
 have st1 : tn 0 h₁ := T.keep 0 s.heap h₁ st fun b hb o e => keep b o (by rw [e3]; exact Heap.get?_push_of_some _ e)
 generalize hH3 : upd H s.heap.objs.size (.lst []) = H3 at *
 generalize hY : cxComp X N scope s3.heap.objs.size s3 H3 fp = Y at *
 have sub : ∀ x c, (closOf X.env scope.names []).lookup x = some c → X.env.cells.lookup x = some c :=
   closOf_sub scope.names [] (fun n hn => I.ok.has n (S.free _ hn rfl)) (fun x c z => by cases z)
 have stat : ∀ {H' : Hp}, (∀ b ∈ fp, H' b = none) → ∀ b ∈ fp, FpOk Y [] H' b := fun {H'} hn b hb => by
   subst hY
   obtain ⟨f0, f1, f2, f3, f4, f5⟩ := hf3 b hb
   refine ⟨hn b hb, Nat.ne_of_lt (hfl b hb), fun z => ?_, .inl hb, fun x c e => f4 x c (sub x c e), fun p hp => absurd (show p ∈ ([] : List (Addr × Obj)) from hp) (by simp)⟩
   rcases List.mem_cons.mp (I3.stkSub b z) with q | q
   · exact f1 q
   · exact f2 q
 have eA : Y.A = X.A := by subst hY; rfl
 have eP : Y.prog = X.prog := by subst hY; rfl
 have eW : Y.w = X.w := by subst hY; rfl
 have eK : Y.K = X.K := by subst hY; rfl
 have eC : Y.calm = true := by subst hY; exact hc
 have eE : Y.env = compEnvC scope (closOf X.env scope.names []) s3.heap.objs.size X.env := by subst hY; rfl
 have eXe : Y.xe = fun _ _ => False := by subst hY; rfl
 have hgY : PG Y tg g := by subst hY; exact hg _ _ _ _
 have htY : PIfs Y ifs tt := by subst hY; exact ht _ _ _ _
 have heY : PE Y elt te := by subst hY; exact he _ _ _ _
 have loop : codeAny (model X.prog X.w) X.A (.compLoop (.ListComp elt [⟨tg, iter, ifs, 0⟩] scope pos) 0 (.ref it) (.ref s.heap.objs.size) (compEnvC scope (closOf X.env scope.names []) s3.heap.objs.size X.env))
     (RR (.ref s.heap.objs.size) s3.heap.objs.size) { s3 with heap := h₁, toks := s3.toks + ([] : List (Str × Value)).length } := by
   refine loop_tests (fun n s' => ∃ i ys τ H', Inv Y [] τ H' s' ∧ tn i s'.heap ∧ (∀ b ∈ fp, H' b = none) ∧ W i n ys τ H') ?_ m0 ⟨0, [], _, H3, J0, st1, fun b hb => (hf3 b hb).1, w0⟩
   rintro n s4 ⟨i, ys, τ, H4, I4, st4, fr4, w4⟩
   obtain ⟨hDl, tr⟩ := turn i n ys τ H4 w4
   rcases tr with ⟨stop, qn⟩ | ⟨go, Nn, hNn, step⟩
   · have d := T.done Y eP eW eK eC i [] s4 τ H4 (fun _ _ => False) I4 (stat fr4) st4 stop
     rw [eA] at d
     refine thn d fun r s5 ⟨hr, I5⟩ => ?_
     subst hr
     have u : Inv X pins σ H4 s5 := by
       subst hY
       exact I3.call' (ch := fp) I5.os I5.base I5.hok I5.bare fun b hb => ⟨(hf3 b hb).2.2.2.1, (hf3 b hb).2.1, (hf3 b hb).2.2.2.2.1, (hf3 b hb).2.2.2.2.2⟩
     have hC : H4 s3.heap.objs.size = none := by have z := I5.free; rw [eE] at z; exact z
     obtain ⟨m, hn, _⟩ := I5.loc
     rw [eE] at hn
     exact hRR _ _ H4 s5 m u (I3.fpOk (Nat.le_refl _) hC) hn qn
   · have d := T.item Y eP eW eK eC i [] s4 τ H4 (fun _ _ => False) I4 (stat fr4) st4 go
     rw [eA] at d
     refine thn d fun r s5 ⟨u, hr, h5⟩ => ?_
     subst hr
     refine thn h5 fun _ s6 ⟨x, H6, I6, r6, y6, st6, fr6⟩ => ?_
     have I6' := I6.pinned (stat fr6) (T.obj _ _ st6)
     have q6 := hgY _ s6 τ H6 x u _ I6' r6 (step x H6 y6)
     rw [eP, eW, eA, eE, eXe] at q6
     refine thn q6 fun _ s7 ⟨σ7, H7, I7, q7⟩ => ?_
     have q8 := htY _ s7 σ7 H7 _ I7 q7
     rw [eP, eW, eA, eE, eXe] at q8
     refine thn q8 fun ok s8 ⟨H8, I8, q8⟩ => ?_
     have again : ∀ {σ9 : St} {H9 : Hp} {s9 : Shared} {zs : List V}, Inv Y ([] ++ pinsAt fp s6.heap) σ9 H9 s9 → (∃ m', m' < n ∧ W (i + 1) m' zs σ9 H9) → ∃ m, m < n ∧ ∃ i ys τ H', Inv Y [] τ H' s9 ∧ tn i s9.heap ∧ (∀ b ∈ fp, H' b = none) ∧ W i m ys τ H' := fun {σ9 H9 s9 zs} I9 n9 => by
       obtain ⟨m', hm, w9⟩ := n9
       refine ⟨m', hm, i + 1, zs, σ9, H9, I9.unpinned, T.keep _ _ _ st6 fun b hb o e => (I9.pin (b, o) (List.mem_append_right _ (List.mem_append_right _ (mem_pinsAt hb e)))).1, fun b hb => ?_, w9⟩
       obtain ⟨o, e, d⟩ := T.obj _ _ st6 b hb
       exact (I9.pin (b, o) (List.mem_append_right _ (List.mem_append_right _ (mem_pinsAt hb e)))).2.1
     cases ok with
     | false =>
       rw [if_neg Bool.false_ne_true]
       rw [if_neg Bool.false_ne_true] at q8
       exact again I8 (hNn _ _ _ q8)
     | true =>
       rw [if_pos rfl]
       rw [if_pos rfl] at q8
       have q9 := heY _ s8 σ7 H8 _ I8 q8
       rw [eP, eW, eA, eE, eXe] at q9
       refine thn q9 fun y s9 ⟨yv, H9, I9, r9, hD9, hz9, q9⟩ => ?_
       have ap := mt_append (X := Y) _ s9 σ7 H9 (.ref s.heap.objs.size) [yv] (.ref s.heap.objs.size) [y] (fun _ H10 => Nn (ys ++ [yv]) σ7 H10) I9 rfl (.cons r9 .nil) ⟨_, ys, yv, rfl, rfl, hD9, hz9, q9⟩
       rw [eP, eW, eA, eXe] at ap
       exact thn ap fun _ s10 ⟨_, H10, I10, _, q10⟩ => again I10 (hNn _ _ _ q10)
 subst hs3
 exact codeAny_compStart_list loop (T.self _ 0 _ _ _ st1 loop)
theorem pe_comp (hc : X.calm = true) (S : CompScope X.N X.env.scope N nv js scope) (hi : PI X tg iter wi) (hg : ∀ C s H fp, PG (cxComp X N scope C s H fp) tg g) (ht : ∀ C s H fp, PIfs (cxComp X N scope C s H fp) ifs tt)
   (he : ∀ C s H fp, PE (cxComp X N scope C s H fp) elt te) (hs : ∀ x, foldedSetIterable iter X.env x = pure x := by intro _; rfl) :
   PE X (.ListComp elt [⟨tg, iter, ifs, 0⟩] scope pos) (tComp wi g tt te nv js) := by
 intro pins s σ H Q I h
 rw [eval_ListComp]
 refine wpAny_comprehension_free (use := none) rfl hs (closureFor_eq fun n hn => I.ok.has n (S.free _ hn rfl)) S.kind S.loc (thn (hi pins s σ H _ I h) fun v s1 h1 => thn h1 fun itv s2 h2 => ?_)
 obtain ⟨it, fp, tn, J, H2, e, I2, T, st2, f2, hR⟩ := h2
 subst e
 refine comp_block (RR := fun acc C => compPost (model X.prog X.w) X.A X.xe none (EP X pins σ Q) acc C) hc S hg ht he I2 T st2 f2 hR ?_
 intro D C H' s' m I' fC hn q
 refine ⟨m, hn, fun h' sb => ⟨.ref D, H', ?_, rfl, q⟩⟩
 exact I'.turned (t' := s'.toks) (fun b o hb e => (sb.2 b hb).trans e) fC.1 fC.2.1 fC.2.2.2.1 fC.2.2.2.2.1 fC.2.2.2.2.2
theorem ps_setC {i : Nat} {x : Str} {pos' spos : Pos} (hc : X.calm = true) (hN : X.N.Nodup) (hi' : X.N[i]? = some x) (hx : X.env.scope.names.lookup x = some .local) (S : CompScope X.N X.env.scope N nv js scope) (hi : PI X tg iter wi) (hg : ∀ C s H fp, PG (cxComp X N scope C s H fp) tg g) (ht : ∀ C s H fp, PIfs (cxComp X N scope C s H fp) ifs tt)
   (he : ∀ C s H fp, PE (cxComp X N scope C s H fp) elt te) (hsw : swapsWith (.ListComp elt [⟨tg, iter, ifs, 0⟩] scope pos) (some (.Name x pos')) spos.line X.env = pure true := by rfl) (hs : ∀ x, foldedSetIterable iter X.env x = pure x := by intro _; rfl) :
   PS X (.Assign [.Name x pos'] (.ListComp elt [⟨tg, iter, ifs, 0⟩] scope pos) spos) (tAsg (tComp wi g tt te nv js) (gName i)) := by
 intro pins s σ H D I h
 rw [exec_Assign_Name_used _ _ _ _ hsw]
 refine wpAny_bind (wpAny_standAt (wpAny_bind ?_))
 show wpAny _ X.A (do let _ ← comprehension (.ListComp elt [⟨tg, iter, ifs, 0⟩] scope pos) scope X.env _ (newList []) false (eval iter X.env) (some (assign (.Name x pos') X.env))) _ _ s
 refine wpAny_bind (wpAny_mono (wpAny_comprehension_free (use := some (assign (.Name x pos') X.env)) (Q := fun _ s' => SP X pins D .next s') rfl hs (closureFor_eq fun n hn => I.ok.has n (S.free _ hn rfl)) S.kind S.loc
   (thn (hi pins s σ H _ I h) fun v s1 h1 => thn h1 fun itv s2 h2 => ?_)) (fun _ s' hq => wpAny_pure (wpAny_pure hq)) fun _ _ e => e)
 obtain ⟨it, fp, tn, J, H2, e, I2, T, st2, f2, hR⟩ := h2
 subst e
 refine comp_block (RR := fun acc C => compPost (model X.prog X.w) X.A X.xe (some (assign (.Name x pos') X.env)) (fun _ s' => SP X pins D .next s') acc C) hc S hg ht he I2 T st2 f2 hR ?_
 intro Dl C H' s' m I' fC hn q
 show wpAny _ X.A (assign (.Name x pos') X.env (.ref Dl)) _ _ _
 refine wpAny_assign_Name (store_ok2 I' hN hi' (.inl hx) (v := .ref Dl) rfl (fun s2 I3 ch => ?_) (.inr hx))
 obtain ⟨a, sb, ha⟩ := ch
 have hCa : C ≠ a := by
   rcases ha with rfl | ha
   · exact fC.2.1
   · exact (fC.2.2.2.2.1 x a ha).symm
 refine ⟨m, hn.sameBut sb hCa, fun h' sb' => ⟨_, H', ?_, q⟩⟩
 exact I3.turned (t' := s2.toks) (fun b o hb e => (sb'.2 b hb).trans e) fC.1 fC.2.1 fC.2.2.2.1 fC.2.2.2.2.1 fC.2.2.2.2.2
end
end L2

set_option Elab.async false
set_option linter.all false
set_option maxRecDepth 100000
set_option maxHeartbeats 4000000
namespace L2
open PySem PySem.Spec PyProof.Rows
section
variable {prog : Program} {w : World} {A : Around} {E : Value → Shared → Prop} {s : Shared}
end
section
variable {X : Cx} {e : Expr} {te : TE}
end
end L2

set_option Elab.async false
set_option linter.all false
set_option maxRecDepth 100000
set_option maxHeartbeats 4000000
namespace L2
open PySem PySem.Spec PyProof.Rows
def sg (c : Nat) : Str := ⟨#[c]⟩
def Its (z : Str) : It := ⟨fun i _ => i < z.cps.size, fun i H x H' => H' = H ∧ ∃ c, z.cps[i]? = some c ∧ x = .str (sg c), fun i _ => z.cps.size ≤ i⟩
theorem turn_str {P : Program} {w : World} {K : PySem.W.Frag} {tg : Expr} (it : Addr) (z : Str) (t : Tok) : Turn P w K tg (Its z) [it] it (fun i h => h.IsStrIter it (strIterType z) z t i) where
 mem := by simp
 obj := fun i h st b hb => by
   have e : b = it := by simpa using hb
   subst e
   obtain ⟨o, e, c, d⟩ := st
   exact ⟨o, e, fun v z => by rw [d] at z; cases z⟩
 keep := fun i h h' st k => by
   obtain ⟨o, e, r⟩ := st
   exact ⟨o, k it (by simp) o e, r⟩
 item := by
   intro X hP hw hK hc i pins s σ H E I hf st hg
   subst hP hw hK
   obtain ⟨f0, f1, f2, f3, f4, f5⟩ := hf it (by simp)
   have hi : i < z.cps.size := hg
   have hx : z.cps[i]? = some z.cps[i] := by simp [hi]
   cases ha : z.cps.all (· < 128) with
   | true =>
     have et : strIterType z = "str_ascii_iterator" := by simp only [strIterType, ha, if_true]
     rw [et] at st ⊢
     refine wpAny_pyNext_ascii_item st hx fun h' st' sb => ?_
     have I1 : Inv X pins σ H { s with heap := h', toks := s.toks + 1 } := I.turned (fun b o hb e => (sb.2 b hb).trans e) f0 f1 f3 f4 f5
     obtain ⟨o, e, c, d⟩ := id st'
     exact ⟨_, rfl, go_of (s := { s with heap := h', toks := s.toks + 1 }) e c d (by decide) ⟨.str (sg z.cps[i]), H, I1, ⟨_, rfl⟩, ⟨rfl, _, hx, rfl⟩, st', fun b hb => (hf b hb).1⟩⟩
   | false =>
     have et : strIterType z = "str_iterator" := by simp only [strIterType, ha, Bool.false_eq_true, if_false]
     rw [et] at st ⊢
     refine wpAny_pyNext_wide_item st hx fun h' st' sb => ?_
     have I1 : Inv X pins σ H { s with heap := h', toks := s.toks + 1 } := I.turned (fun b o hb e => (sb.2 b hb).trans e) f0 f1 f3 f4 f5
     obtain ⟨o, e, c, d⟩ := id st'
     exact ⟨_, rfl, go_of (s := { s with heap := h', toks := s.toks + 1 }) e c d (by decide) ⟨.str (sg z.cps[i]), H, I1, ⟨_, rfl⟩, ⟨rfl, _, hx, rfl⟩, st', fun b hb => (hf b hb).1⟩⟩
 done := by
   intro X hP hw hK hc i pins s σ H E I hf st hg
   subst hP hw hK
   obtain ⟨f0, f1, f2, f3, f4, f5⟩ := hf it (by simp)
   have hi : z.cps.size ≤ i := hg
   have hx : z.cps[i]? = none := by simp [hi]
   cases ha : z.cps.all (· < 128) with
   | true =>
     have et : strIterType z = "str_ascii_iterator" := by simp only [strIterType, ha, if_true]
     rw [et] at st
     exact wpAny_pyNext_ascii_end (I.ok.hd hc) st hx fun h' eb => ⟨rfl, I.turned (t' := s.toks) (fun b o hb e => eb b o hb e) f0 f1 f3 f4 f5⟩
   | false =>
     have et : strIterType z = "str_iterator" := by simp only [strIterType, ha, Bool.false_eq_true, if_false]
     rw [et] at st
     exact wpAny_pyNext_wide_end (I.ok.hd hc) st hx fun h' eb => ⟨rfl, I.turned (t' := s.toks) (fun b o hb e => eb b o hb e) f0 f1 f3 f4 f5⟩
 self := by
   intro A i s Q E st h
   cases ha : z.cps.all (· < 128) with
   | true =>
     have et : strIterType z = "str_ascii_iterator" := by simp only [strIterType, ha, if_true]
     rw [et] at st
     exact wpAny_pyIter_striter_ascii st h
   | false =>
     have et : strIterType z = "str_iterator" := by simp only [strIterType, ha, Bool.false_eq_true, if_false]
     rw [et] at st
     exact wpAny_pyIter_striter_wide st h
section
variable {X : Cx} {tg : Expr}
def iStr (tl : TE) : TI := fun σ H R => tl σ H fun x H1 => ∃ z, x = .str z ∧ R (Its z) H1
theorem pi_str {l : Expr} {tl : TE} (hl : PE X l tl) : PI X tg l (iStr tl) := by
 intro pins s σ H R I h
 refine thn (hl pins s σ H _ I h) fun v s1 ⟨x, H1, I1, r1, q1⟩ => ?_
 obtain ⟨z, e, q⟩ := q1
 subst e
 obtain ⟨t, rfl⟩ := r1
 refine wpAny_pyIter_strU ?_
 refine ⟨s1.heap.objs.size, [s1.heap.objs.size], _, _, H1, rfl, I1.kept (t' := s1.toks) fun b o e => Heap.get?_push_of_some _ e, turn_str _ z t, ⟨_, Heap.get?_push_size _ rfl, rfl, rfl⟩, fun b hb => ?_, q⟩
 have e : b = s1.heap.objs.size := by simpa using hb
 subst e
 exact I1.fpOk (Nat.le_refl _) (I1.hok.fresh (Nat.le_refl _))
end
theorem for_str {z : Str} {g : TG} {tb : TS} {D : Ends} {σ : St} {H : Hp} (Pv : Nat → St → Hp → Prop) (h0 : Pv 0 σ H)
   (hs : ∀ i c σ H, z.cps.toList[i]? = some c → Pv i σ H → g (.str (sg c)) σ H fun σ2 H2 => tb { D with nx := Pv (i + 1), ct := Pv (i + 1), bk := D.nx } σ2 H2) (hd : ∀ σ H, Pv z.cps.toList.length σ H → D.nx σ H) :
   ∃ W : Nat → Nat → St → Hp → Prop, (∃ m, W 0 m σ H) ∧ ∀ i m σ H, W i m σ H →
     ((Its z).stop i H ∧ D.nx σ H) ∨ ((Its z).go i H ∧ ∃ N : St → Hp → Prop, (∀ σ' H', N σ' H' → ∃ m', m' < m ∧ W (i + 1) m' σ' H') ∧ ∀ x H', (Its z).yld i H x H' → g x σ H' fun σ2 H2 => tb { D with nx := N, ct := N, bk := D.nx } σ2 H2) := by
 refine ⟨fun i m σ H => m = z.cps.size - i ∧ i ≤ z.cps.size ∧ Pv i σ H, ⟨z.cps.size, by simp, Nat.zero_le _, h0⟩, ?_⟩
 rintro i m σ H ⟨rfl, hi, p⟩
 by_cases hlt : i < z.cps.size
 · refine .inr ⟨hlt, Pv (i + 1), fun σ' H' p' => ⟨z.cps.size - (i + 1), by omega, rfl, hlt, p'⟩, fun x H' y => ?_⟩
   obtain ⟨e, c, hc, ex⟩ := y
   subst e ex
   exact hs i c σ _ (by simpa using hc) p
 · have e : i = z.cps.size := by omega
   subst e
   exact .inl ⟨Nat.le_refl _, hd σ H (by simpa using p)⟩
theorem comp_list {K : PySem.W.Frag} {a : Addr} {xs : List V} {g : TG} {tt : TT} {te : TE} {Q : VK} {D : Addr} {τ : St} {H : Hp} (Pv : Nat → List V → St → Hp → Prop) (h0 : Pv 0 [] τ (upd H D (.lst [])))
   (hl : ∀ i ys τ H, i ≤ xs.length → Pv i ys τ H → SqL K H a xs ∧ H D = some (.lst ys))
   (hs : ∀ i x ys τ H, xs[i]? = some x → Pv i ys τ H → g x τ H fun τ2 H2 => tt τ2 H2 fun b H3 => if b = true then te τ2 H3 fun y H4 => H4 D = some (.lst ys) ∧ ys.length < sizeLine ∧ Pv (i + 1) (ys ++ [y]) τ2 (upd H4 D (.lst (ys ++ [y]))) else Pv (i + 1) ys τ2 H3)
   (hd : ∀ ys τ H, Pv xs.length ys τ H → Q (.ref D) H) :
   CompR (Itl K a) g tt te Q D τ H := by
 refine ⟨fun i m ys τ H => m = xs.length - i ∧ i ≤ xs.length ∧ Pv i ys τ H, ⟨xs.length, by simp, Nat.zero_le _, h0⟩, ?_⟩
 rintro i m ys τ H ⟨rfl, hi, p⟩
 obtain ⟨q, hD⟩ := hl i ys τ H hi p
 refine ⟨hD, ?_⟩
 by_cases hlt : i < xs.length
 · refine .inr ⟨⟨xs, xs[i], q, by simp [hlt]⟩, Pv (i + 1), fun zs σ' H' p' => ⟨xs.length - (i + 1), by omega, rfl, hlt, p'⟩, fun x H' y => ?_⟩
   obtain ⟨e, y⟩ := y
   subst e
   exact hs i x ys τ _ (y xs q) p
 · have e : i = xs.length := by omega
   subst e
   exact .inl ⟨⟨xs, q, Nat.le_refl _⟩, hd ys τ H p⟩
theorem comp_str {z : Str} {g : TG} {tt : TT} {te : TE} {Q : VK} {D : Addr} {τ : St} {H : Hp} (Pv : Nat → List V → St → Hp → Prop) (h0 : Pv 0 [] τ (upd H D (.lst [])))
   (hl : ∀ i ys τ H, i ≤ z.cps.toList.length → Pv i ys τ H → H D = some (.lst ys))
   (hs : ∀ i c ys τ H, z.cps.toList[i]? = some c → Pv i ys τ H → g (.str (sg c)) τ H fun τ2 H2 => tt τ2 H2 fun b H3 => if b = true then te τ2 H3 fun y H4 => H4 D = some (.lst ys) ∧ ys.length < sizeLine ∧ Pv (i + 1) (ys ++ [y]) τ2 (upd H4 D (.lst (ys ++ [y]))) else Pv (i + 1) ys τ2 H3)
   (hd : ∀ ys τ H, Pv z.cps.toList.length ys τ H → Q (.ref D) H) :
   CompR (Its z) g tt te Q D τ H := by
 have hz : z.cps.toList.length = z.cps.size := by simp
 refine ⟨fun i m ys τ H => m = z.cps.size - i ∧ i ≤ z.cps.size ∧ Pv i ys τ H, ⟨z.cps.size, by simp, Nat.zero_le _, h0⟩, ?_⟩
 rintro i m ys τ H ⟨rfl, hi, p⟩
 refine ⟨hl i ys τ H (by omega) p, ?_⟩
 by_cases hlt : i < z.cps.size
 · refine .inr ⟨hlt, Pv (i + 1), fun zs σ' H' p' => ⟨z.cps.size - (i + 1), by omega, rfl, hlt, p'⟩, fun x H' y => ?_⟩
   obtain ⟨e, c, hc, ex⟩ := y
   subst e ex
   exact hs i c ys τ _ (by simpa using hc) p
 · have e : i = z.cps.size := by omega
   subst e
   exact .inl ⟨Nat.le_refl _, hd ys τ H (by rw [hz]; exact p)⟩
theorem strs_of : ∀ {zs : List Str} {us : List Value}, Vals (zs.map V.str) us → StrsAre us zs
 | [], _, r => by cases r; exact .nil
 | z :: zs, _, r => by
   cases r with
   | cons r1 r2 =>
     obtain ⟨t, e⟩ := r1
     subst e
     exact .cons z t (strs_of r2)
section
variable {X : Cx}
def rJoin (K : PySem.W.Frag) : V → List V → Hp → VK → Prop := fun x vs H Q => ∃ z p zs, x = .str z ∧ vs = [.ref p] ∧ SqL K H p (zs.map V.str) ∧ (zs.map (·.length)).sum + zs.length * z.length ≤ 16777216 ∧ Q (.str (Txt.join z zs)) H
theorem mt_join : MtR X "str.join" (rJoin X.K) := by
 intro pins s σ H x vs v us Q I rx rv h
 obtain ⟨z, p, zs, rfl, rfl, hq, hz, q⟩ := h
 obtain ⟨t, rfl⟩ := rx
 obtain ⟨u, rfl, ru⟩ := rv.one
 cases ru
 obtain ⟨its, r, pl, _⟩ := I.list hq
 exact join_list pl.isList (by simpa using strs_of r) hz fun t' k => ⟨.str _, H, I.tok k, ⟨t', rfl⟩, q⟩
theorem call_isinst : CallR X (.builtin "isinstance") (fun xs H Q => ∃ x c t b, xs = [x, c] ∧ TyOf X.K H x t ∧ ((∃ n, c = .ty n ∧ PySem.W.kitOne X.K t (.type n) = some b) ∨ (∃ a, c = .ref a ∧ PySem.W.kitOne X.K t (.ref a) = some b)) ∧ Q (.bl b) H) := by
 intro pins s σ H xs us Q I r h
 obtain ⟨x, c, t, b, rfl, ty, hc, q⟩ := h
 obtain ⟨u, w', rfl, ru, rw'⟩ := vals2 r
 rcases hc with ⟨n, rfl, e⟩ | ⟨a, rfl, e⟩
 · cases rw'
   exact isinst_ok I ru ty e fun tk => ⟨.bl b, H, I.tok tk, rfl, q⟩
 · cases rw'
   exact isinst_ok I ru ty e fun tk => ⟨.bl b, H, I.tok tk, rfl, q⟩
end
theorem sg_len (c : Nat) : (sg c).length = 1 := rfl
theorem join_signs (cs : List Nat) : Txt.join (Str.ofString "") (cs.map sg) = ⟨cs.toArray⟩ := by
 show Builtin.Str.glued (Str.ofString "") (cs.map sg) = _
 rw [StrLaws.glued_eq_join]
 induction cs with
 | nil => rfl
 | cons c cs ih =>
   cases cs with
   | nil => rfl
   | cons d cs =>
     rw [List.map_cons, List.map_cons] at *
     show sg c ++ (Str.ofString "") ++ Str.join (Str.ofString "") (sg d :: cs.map sg) = _
     rw [ih]
     show Str.mk ((#[c] ++ (Str.ofString "").cps) ++ (d :: cs).toArray) = _
     have e : (Str.ofString "").cps = #[] := by decide +kernel
     rw [e]
     simp
section
variable {X : Cx}
def rNeL (K : PySem.W.Frag) : R2 := fun x y H Q => ∃ a b xs, x = .ref a ∧ y = .ref b ∧ SqL K H a xs ∧ SqL K H b [] ∧ Q (.bl (!xs.isEmpty)) H
theorem op_neL (hu : X.A.units < cLine) : OpR X (compareOp .NotEq) (rNeL X.K) := by
 intro pins s σ H x y v u Q I rx ry h
 obtain ⟨a, b, xs, rfl, rfl, ha, hb, q⟩ := h
 cases rx
 cases ry
 obtain ⟨its, r1, p1, _⟩ := I.list ha
 obtain ⟨its2, r2, p2, _⟩ := I.list hb
 cases r2
 show wpAny _ _ (richCompare .NotEq (.ref a) (.ref b)) _ _ _
 cases xs with
 | nil =>
   cases r1
   refine SeqAt.RcNeAt.lists (e := fun _ => true) p1.isList p2.isList rfl hu (fun j h1 _ => absurd h1 (by simp)) _ _ _ _ ⟨.bl false, H, I, ?_, q⟩
   simp [RelV]
 | cons x xs =>
   cases r1 with
   | cons r rr =>
     exact SeqAt.RcNeAt.lists_lengths p1.isList p2.isList (by simp) hu _ _ _ _ ⟨.bl true, H, I, rfl, q⟩
end
end L2

set_option Elab.async false
set_option linter.all false
set_option maxRecDepth 100000
set_option maxHeartbeats 4000000
namespace L2
open PySem PySem.Spec PyProof.Rows
section
variable {X : Cx} (K : PySem.W.Frag) (h : X.K = K)
include h
theorem ixK_list : IxR X (rIxL K) := by subst h; exact ix_list
theorem ixK_tup : IxR X (rIxT K) := by subst h; exact ix_tup
theorem slK_list : SlR X (rSlL K) := by subst h; exact sl_list
theorem mtK_join : MtR X "str.join" (rJoin K) := by subst h; exact mt_join
theorem callK_len_seq : CallR X (.builtin "len") (fun xs H Q => ∃ p ys, xs = [.ref p] ∧ (SqL K H p ys ∨ SqT K H p ys) ∧ Q (.int ys.length) H) := by subst h; exact call_len_seq
theorem callK_isinst : CallR X (.builtin "isinstance") (fun xs H Q => ∃ x c t b, xs = [x, c] ∧ TyOf K H x t ∧ ((∃ n, c = .ty n ∧ PySem.W.kitOne K t (.type n) = some b) ∨ (∃ a, c = .ref a ∧ PySem.W.kitOne K t (.ref a) = some b)) ∧ Q (.bl b) H) := by subst h; exact call_isinst
theorem callK_list_of : CallR X (.type "list") (fun xs H Q => ∃ p ys, xs = [.ref p] ∧ (SqL K H p ys ∨ SqT K H p ys) ∧ ∀ l, H l = none → Q (.ref l) (upd H l (.lst ys))) := by subst h; exact call_list_of
theorem callK_tuple_of : CallR X (.type "tuple") (fun xs H Q => ∃ p ys, xs = [.ref p] ∧ ((SqL K H p ys ∧ ∀ l, H l = none → Q (.ref l) (upd H l (.tup ys))) ∨ (SqT K H p ys ∧ Q (.ref p) H))) := by subst h; exact call_tuple_of
theorem opK_in_seq : OpR X (compareOp .In) (rIn K false) := by subst h; exact op_in_seq
theorem opK_neL (hu : X.A.units < cLine) : OpR X (compareOp .NotEq) (rNeL K) := by subst h; exact op_neL hu
theorem piK_list {tg l : Expr} {tl : TE} (hl : PE X l tl) : PI X tg l (iList K tl) := by subst h; exact pi_list hl
theorem piK_tup {tg l : Expr} {tl : TE} (hl : PE X l tl) : PI X tg l (iTup K tl) := by subst h; exact pi_tup hl
theorem pgK_tup {es : List Expr} {k : Nat} {pos : Pos} {t : TGs} (n : Nat) (hc : X.calm = true) (hh : PGs X es t)
 (hn : (assignEach es X.env).length = n := by rfl) (hst : (assignEach es X.env).findIdx? (·.1) = none := by rfl) : PG X (.Tuple es k pos) (gTup K n t) := by subst h; exact pg_tup hc hh hn hst
theorem peK_fld {e : Expr} {ta : TE} {f : Str} {pos : Pos} (he : PE X e ta) (hb : attributeBase e f X.env (eval e X.env) = eval e X.env) : PE X (.Attribute e f pos) (tFld K ta f) := by subst h; exact pe_fld he hb
theorem peK_bm {o e : Expr} {es : List Expr} {to : TE} {t : TA} {name : Str} {apos cpos : Pos} {T id : String} {r : V → List V → Hp → VK → Prop} (pa : PlainAttrs T) (slot : Slot T name id) (hty : typeOf (.builtin id) = pure (.type "method_descriptor")) (hm : MtR X id r) (ho : PE X o to) (ha : PA X (e :: es) t)
 (hbase : attributeBase o name X.env (eval o X.env) = eval o X.env := by rfl)
 (hfew : ((backTo cpos (starEach (e :: es) X.env)).all (fun x => !x.1) && (backToKw cpos (keywordEach [] X.env)).all (fun x => x.1.isSome)
   && decide ((e :: es).length + ([] : List Keyword).length + (if ([] : List Keyword).isEmpty then 0 else 1) < 30)) = true := by rfl)
 (hline : (apos.endLine == cpos.line) = true := by rfl) (hs : starEach (e :: es) X.env = (false, eval e X.env) :: starEach es X.env := by rfl) (hplain : (backTo cpos (starEach es X.env)).any (·.1) = false := by rfl) :
 PE X (.Call (.Attribute o name apos) (e :: es) [] cpos) (tBM K T r to t) := by subst h; exact pe_bm pa slot hty hm ho ha hbase hfew hline hs hplain
end
section
variable {X : Cx}
theorem pe_gstr {x : Str} {z : Str} {t : Tok} {pos : Pos} (hg : Gl X x) (hm : X.mg x = some (.str z t)) (hd : (x == ("__debug__" : Str)) = false := by decide) : PE X (.Name x pos) (tC (.str z)) := pe_glob hg hm ⟨t, rfl⟩ hd
theorem pe_gref {x : Str} {a : Addr} {pos : Pos} (hg : Gl X x) (hm : X.mg x = some (.ref a)) (hd : (x == ("__debug__" : Str)) = false := by decide) : PE X (.Name x pos) (tC (.ref a)) := pe_glob hg hm rfl hd
theorem pe_bty (n : String) {x : Str} {pos : Pos} (hg : Gl X x) (hm : X.mg x = none) (hv : bootBuiltins x = some (.type n)) (hn : x ≠ "__name__" := by decide) (hd : (x == ("__debug__" : Str)) = false := by decide) : PE X (.Name x pos) (tC (.ty n)) := pe_bltn hg hm hv rfl hn hd
end
end L2

set_option Elab.async false
set_option linter.all false
set_option maxRecDepth 100000
set_option maxHeartbeats 4000000
namespace L2
open PySem PySem.Spec PyProof.Rows
structure FunD (K : PySem.W.Frag) (x qual : Str) (st : Stmt) (f : Addr) (fd : FuncData) (dV : Value) : Prop where
 ex : ∃ (oc : Value) (od : Option Addr) (kV doc pm : Value) (an : Option Addr) (cdv ct : Value) (osl : Array (Option Value)),
   fd = PySem.W.fnOf x qual (defArgs st) (defBody st) (defScope st) dV kV doc pm an cdv ct ∧ K.lookup f = some ⟨oc, od, .func fd, osl⟩ ∧ PySem.W.codeIn K cdv qual = true
 kp : PySem.W.keepIn K (.ref f) = true
section
variable {P : Program} {w : World} {K : PySem.W.Frag} {mg : Str → Option Value} {base : Heap}
theorem FunD.ok {x qual : Str} {st : Stmt} {f : Addr} {fd : FuncData} {dV : Value} {N ps : List Str} {k : Nat} {sp : Sp} (F : FunD K x qual st f fd dV) (S : FnScope N ps (defScope st)) (len : ∀ vs H Q E, sp vs H Q E → vs.length = ps.length)
   (hbody : ∀ (cdv : Value) (A : Around) (outer : List Env) (s : Shared) (H : Hp) (vs : List V) (Q : VK) (E : XK), Room k (A.deeper (envOfC qual (defScope st) s.heap.objs.size f cdv)) → sp vs H Q E →
     ∃ t, PSs (cxOf CX0 P w K mg base N qual (defScope st) f cdv A outer s H E).nox (defBody st) t ∧ t { nx := fun _ H' => Q .non H', rt := Q } (start N vs) H) : FnOk P w K mg base CX0 (k + 1) f fd ps sp := by
 obtain ⟨oc, od, kV, doc, pm, an, cdv, ct, osl, rfl, lk, hcd⟩ := F.ex
 refine fn_of lk hcd S len fun A outer s H vs Q E hr hsp => ?_
 obtain ⟨t, h, q⟩ := hbody cdv A outer s H vs Q E hr hsp
 exact ⟨t, h.nox, q⟩
theorem FunD.binds {x qual : Str} {st : Stmt} {f : Addr} {fd : FuncData} {dV : Value} {ps : List Str} (F : FunD K x qual st f fd dV)
   (h : ∀ (kV doc pm : Value) (an : Option Addr) (cdv ct : Value) (us : List Value), us.length = ps.length → bindArgs (PySem.W.fnOf x qual (defArgs st) (defBody st) (defScope st) dV kV doc pm an cdv ct) ⟨us, []⟩ = pure (ps.zip us)) : Binds K fd ps [] := by
 obtain ⟨oc, od, kV, doc, pm, an, cdv, ct, osl, rfl, lk, hcd⟩ := F.ex
 exact .all (h kV doc pm an cdv ct)
theorem funD_mk {x qual : Str} {st : Stmt} {f : Addr} {oc dV : Value} {od an : Option Addr} {osl : Array (Option Value)} {kV doc pm cdv ct : Value} (l : K.lookup f = some ⟨oc, od, .func (PySem.W.fnOf x qual (defArgs st) (defBody st) (defScope st) dV kV doc pm an cdv ct), osl⟩)
 (c : PySem.W.codeIn K cdv qual = true) (k : PySem.W.keepIn K (.ref f) = true) : FunD K x qual st f (PySem.W.fnOf x qual (defArgs st) (defBody st) (defScope st) dV kV doc pm an cdv ct) dV := ⟨⟨oc, od, kV, doc, pm, an, cdv, ct, osl, rfl, l, c⟩, k⟩
end
section
variable {X : Cx}
theorem vals_bl_get : ∀ {bs : List Bool} {us : List Value} {i : Nat} {u : Value}, Vals (bs.map V.bl) us → us[i]? = some u → u = .bool (bs.getD i true)
 | [], _, _, _, r, e => by cases r; simp at e
 | b :: bs, _, i, u, r, e => by
   cases r with
   | cons r1 r2 =>
     cases i with
     | zero => simp at e; subst e; exact r1
     | succ i => simp at e; simpa using vals_bl_get r2 e
theorem all_range (bs : List Bool) : ((List.range bs.length).all fun i => bs.getD i true) = bs.all id := by
 rw [Bool.eq_iff_iff, List.all_eq_true, List.all_eq_true]
 constructor
 · intro h b hb
   obtain ⟨i, hi, rfl⟩ := List.mem_iff_getElem.mp hb
   have := h i (by simpa using hi)
   simpa [List.getD, hi] using this
 · intro h i hi
   have hi' : i < bs.length := by simpa using hi
   have := h bs[i] (List.getElem_mem hi')
   simpa [List.getD, hi'] using this
def rAll (K : PySem.W.Frag) : List V → Hp → VK → Prop := fun xs H Q => ∃ (p : Addr) (bs : List Bool), xs = [.ref p] ∧ SqL K H p (bs.map V.bl) ∧ Q (.bl (bs.all id)) H
theorem call_all (hc : X.calm = true) : CallR X (.builtin "all") (rAll X.K) := by
 intro pins s σ H xs us Q I r h
 obtain ⟨p, bs, rfl, hq, q⟩ := h
 obtain ⟨u, rfl, ru⟩ := vals1 r
 cases ru
 obtain ⟨its, rv, pl, hz⟩ := I.list hq
 have hlen := rv.length
 rw [List.length_map] at hlen
 have hpl : p < s.heap.objs.size := by obtain ⟨o, ho, _⟩ := pl.isList; exact Heap.lt_size ho
 refine call_all_walk (wpAny_pyIter_list pl.isList ⟨s.heap.objs.size, _, _, _, _, _, fun i => bs.getD i true, rfl, Walks.list (A := X.A.in1) (show X.A.in1.handled = none from I.ok.hd hc) s.heap.objs.size p (Nat.ne_of_lt hpl) its.toArray, ⟨⟨_, Heap.get?_push_size _ rfl, rfl, rfl⟩, pl.isList.at fun o e => Heap.get?_push_of_some _ e⟩, ?_, ?_⟩)
 · intro i v s' Q' E' hv hq'
   have e : its[i]? = some v := by simpa using hv
   rw [vals_bl_get rv e]
   exact wpAny_truthy_bool hq'
 · intro h' tk hk
   have f0 := I.fpOk (Nat.le_refl s.heap.objs.size) (I.hok.fresh (Nat.le_refl _))
   have I2 : Inv X pins σ H { s with heap := s.heap.push { cls := .type "list_iterator", data := .fields #[.ref p, rawInt 0] } } := I.kept (t' := s.toks) fun b o e => Heap.get?_push_of_some _ e
   have I3 := I2.turned (h' := h') (t' := tk) (it := s.heap.objs.size) (fun b o hb e => hk b o (by simpa using hb) e) f0.1 f0.2.1 f0.2.2.2.1 f0.2.2.2.2.1 f0.2.2.2.2.2
   refine ⟨.bl (bs.all id), H, I3, ?_, q⟩
   show Value.bool _ = Value.bool _
   rw [List.size_toArray, ← hlen, all_range]
theorem callK_all (K : PySem.W.Frag) (h : X.K = K) (hc : X.calm = true) : CallR X (.builtin "all") (rAll K) := by subst h; exact call_all hc
def rCount : V → List V → Hp → VK → Prop := fun x vs H Q => ∃ (z : Str) (c : Nat), x = .str z ∧ vs = [.str (sg c)] ∧ Q (.int (PyProof.Rows.cnt c z.cps.toList)) H
theorem mt_count : MtR X "str.count" rCount := by
 intro pins s σ H x vs v us Q I rx rv h
 obtain ⟨z, c, rfl, rfl, q⟩ := h
 obtain ⟨t, rfl⟩ := rx
 obtain ⟨u, rfl, ru⟩ := rv.one
 obtain ⟨t', rfl⟩ := ru
 exact SC.count ⟨.int _, H, I.tok _, ⟨_, rfl⟩, by
   have e : Txt.count z (sg c) = PyProof.Rows.cnt c z.cps.toList := PyProof.Rows.count_is z c
   rw [e]; exact q⟩
theorem cnt_one : ∀ {l : List Nat} {c : Nat}, l.Nodup → c ∈ l → PyProof.Rows.cnt c l = 1
 | [], _, _, h => by cases h
 | n :: r, c, nd, h => by
   rw [PyProof.Rows.cnt_cons]
   obtain ⟨n1, n2⟩ := List.nodup_cons.mp nd
   by_cases e : n = c
   · subst e
     rw [if_pos rfl, PyProof.Rows.cnt_none _ _ n1]; rfl
   · rw [if_neg e, cnt_one n2 ((List.mem_cons.mp h).resolve_left (Ne.symm e))]; rfl
def eqVs : List V → List V → Bool
 | [], [] => true
 | x :: xs, y :: ys => eqV x y && eqVs xs ys
 | _, _ => false
theorem eqV_self : ∀ {x : V}, flatV x = true → eqV x x = true
 | .non, _ => rfl
 | .bl b, _ => by cases b <;> rfl
 | .int i, _ => by simp [eqV]
 | .str z, _ => by simp [eqV]
def eAt (xs ys : List V) (j : Nat) : Bool := match xs[j]?, ys[j]? with
 | some x, some y => eqV x y
 | _, _ => true
theorem range_eqVs : ∀ (xs ys : List V), ((List.range (min xs.length ys.length)).all (eAt xs ys) && xs.length == ys.length) = eqVs xs ys
 | [], [] => rfl
 | [], _ :: _ => by simp [eqVs]
 | _ :: _, [] => by simp [eqVs]
 | x :: xs, y :: ys => by
   have ih := range_eqVs xs ys
   have e : min (x :: xs).length (y :: ys).length = min xs.length ys.length + 1 := by rw [List.length_cons, List.length_cons]; omega
   rw [e, List.range_succ_eq_map, List.all_cons, List.all_map]
   have e2 : (eAt (x :: xs) (y :: ys) ∘ Nat.succ) = eAt xs ys := by funext j; simp [eAt]
   rw [e2]
   unfold eqVs
   rw [← ih]
   have e3 : ((x :: xs).length == (y :: ys).length) = (xs.length == ys.length) := by simp
   rw [e3]
   show (eqV x y && _ && _) = _
   rw [Bool.and_assoc]
def rEqT (K : PySem.W.Frag) : R2 := fun x y H Q => ∃ a b xs ys, x = .ref a ∧ y = .ref b ∧ SqT K H a xs ∧ SqT K H b ys ∧ xs.all flatV = true ∧ ys.all flatV = true ∧ Q (.bl (eqVs xs ys)) H
theorem items_eqAt {A : Around} {s : Shared} {xs ys : List V} {us ws : List Value} (r1 : Vals xs us) (r2 : Vals ys ws) (f1 : xs.all flatV = true) (f2 : ys.all flatV = true) (j : Nat) (h1 : j < us.toArray.size) (h2 : j < ws.toArray.size) :
   SeqAt.EqAt A s us.toArray[j] ws.toArray[j] (eAt xs ys j) := by
 have hl1 := r1.length
 have hl2 := r2.length
 have hj1 : j < xs.length := by rw [hl1]; simpa using h1
 have hj2 : j < ys.length := by rw [hl2]; simpa using h2
 obtain ⟨u, eu, ru⟩ := r1.get (i := j) (x := xs[j]) (by simp [hj1])
 obtain ⟨w, ew, rw'⟩ := r2.get (i := j) (x := ys[j]) (by simp [hj2])
 have e1 : us.toArray[j] = u := by
   have := List.getElem?_eq_some_iff.mp eu
   obtain ⟨_, q⟩ := this
   simpa using q
 have e2 : ws.toArray[j] = w := by
   have := List.getElem?_eq_some_iff.mp ew
   obtain ⟨_, q⟩ := this
   simpa using q
 rw [e1, e2]
 have e3 : eAt xs ys j = eqV xs[j] ys[j] := by simp [eAt, hj1, hj2]
 rw [e3]
 exact eqAt_V ru rw' (List.all_eq_true.mp f1 _ (List.getElem_mem hj1)) (List.all_eq_true.mp f2 _ (List.getElem_mem hj2))
theorem op_eqT (K : PySem.W.Frag) (hK : X.K = K) (hu : X.A.units < cLine) : OpR X (compareOp .Eq) (rEqT K) := by
 subst hK
 intro pins s σ H x y v u Q I rx ry h
 obtain ⟨a, b, xs, ys, rfl, rfl, ha, hb, f1, f2, q⟩ := h
 cases rx
 cases ry
 obtain ⟨its, r1, p1, _⟩ := I.tuple ha
 obtain ⟨its2, r2, p2, _⟩ := I.tuple hb
 refine SeqAt.eq_tupleAt (e := eAt xs ys) p1 p2 hu (fun j h1 h2 => items_eqAt r1 r2 f1 f2 j h1 h2) ⟨.bl _, H, I, ?_, q⟩
 show Value.bool _ = Value.bool _
 rw [List.size_toArray, List.size_toArray, ← r1.length, ← r2.length, range_eqVs]
end
end L2

set_option Elab.async false
set_option linter.all false
set_option maxRecDepth 100000
set_option maxHeartbeats 4000000
namespace L2
open PySem PySem.Spec PyProof.Rows
inductive SameD (K : PySem.W.Frag) (H : Hp) : Nat → V → V → Prop where
 | flat {n : Nat} {x y : V} : flatV x = true → flatV y = true → eqV x y = true → SameD K H n x y
 | ref {n : Nat} {a : Addr} : SameD K H n (.ref a) (.ref a)
 | tup {n : Nat} {a b : Addr} {xs ys : List V} : SqT K H a xs → SqT K H b ys → xs.length = ys.length → (∀ (j : Nat) x y, xs[j]? = some x → ys[j]? = some y → SameD K H n x y) → SameD K H (n + 1) (.ref a) (.ref b)
 | lst {n : Nat} {a b : Addr} {xs ys : List V} : SqL K H a xs → SqL K H b ys → xs.length = ys.length → (∀ (j : Nat) x y, xs[j]? = some x → ys[j]? = some y → SameD K H n x y) → SameD K H (n + 1) (.ref a) (.ref b)
theorem all_true (n : Nat) : (List.range n).all (fun _ => true) = true := by rw [List.all_eq_true]; intro _ _; rfl
section
variable {X : Cx} {pins : List (Addr × Obj)} {σ : St} {H : Hp} {s : Shared}
theorem items_same {A : Around} {R : V → V → Prop} {xs ys : List V} {us ws : List Value} (r1 : Vals xs us) (r2 : Vals ys ws) (h : ∀ (j : Nat) x y u w, xs[j]? = some x → ys[j]? = some y → RelV x u → RelV y w → SeqAt.EqAt A s u w true) (j : Nat) (h1 : j < us.toArray.size) (h2 : j < ws.toArray.size) :
   SeqAt.EqAt A s us.toArray[j] ws.toArray[j] true := by
 have hl1 := r1.length
 have hl2 := r2.length
 have hj1 : j < xs.length := by rw [hl1]; simpa using h1
 have hj2 : j < ys.length := by rw [hl2]; simpa using h2
 obtain ⟨u, eu, ru⟩ := r1.get (i := j) (x := xs[j]) (by simp [hj1])
 obtain ⟨w, ew, rw'⟩ := r2.get (i := j) (x := ys[j]) (by simp [hj2])
 have e1 : us.toArray[j] = u := by
   obtain ⟨_, q⟩ := List.getElem?_eq_some_iff.mp eu
   simpa using q
 have e2 : ws.toArray[j] = w := by
   obtain ⟨_, q⟩ := List.getElem?_eq_some_iff.mp ew
   simpa using q
 rw [e1, e2]
 exact h j _ _ u w (by simp [hj1]) (by simp [hj2]) ru rw'
theorem eqAt_same (I : Inv X pins σ H s) {n : Nat} {x y : V} (h : SameD X.K H n x y) : ∀ {A : Around} {u v : Value}, A.units + n < cLine → RelV x u → RelV y v → SeqAt.EqAt A s u v true := by
 induction h with
 | flat f1 f2 e => intro A u v _ ru rv; rw [← e]; exact eqAt_V ru rv f1 f2
 | ref => intro A u v _ ru rv; cases ru; cases rv; exact SeqAt.EqAt.same _
 | @tup n a b xs ys ha hb hl _ ih =>
   intro A u v hu ru rv
   cases ru; cases rv
   by_cases e : a = b
   · subst e; exact SeqAt.EqAt.same _
   · obtain ⟨its, r1, p1, _⟩ := I.tuple ha
     obtain ⟨its2, r2, p2, _⟩ := I.tuple hb
     refine SeqAt.EqAt.of_refs e ?_
     have q := SeqAt.RcAt.tuples (A := A) (e := fun _ => true) p1 p2 (by omega) fun j h1 h2 => items_same (R := fun _ _ => True) r1 r2 (fun j x y u w ex ey ru rw' => ih j x y ex ey (by show A.units + 1 + n < cLine; omega) ru rw') j h1 h2
     have e2 : ((List.range (min its.toArray.size its2.toArray.size)).all (fun _ => true) && its.toArray.size == its2.toArray.size) = true := by
       rw [all_true, List.size_toArray, List.size_toArray, ← r1.length, ← r2.length, hl]; simp
     rw [e2] at q
     exact q
 | @lst n a b xs ys ha hb hl _ ih =>
   intro A u v hu ru rv
   cases ru; cases rv
   by_cases e : a = b
   · subst e; exact SeqAt.EqAt.same _
   · obtain ⟨its, r1, p1, _⟩ := I.list ha
     obtain ⟨its2, r2, p2, _⟩ := I.list hb
     refine SeqAt.EqAt.of_refs e ?_
     have q := SeqAt.RcAt.lists (A := A) (e := fun _ => true) p1.isList p2.isList (by rw [List.size_toArray, List.size_toArray, ← r1.length, ← r2.length, hl]) (by omega) fun j h1 h2 => items_same (R := fun _ _ => True) r1 r2 (fun j x y u w ex ey ru rw' => ih j x y ex ey (by show A.units + 1 + n < cLine; omega) ru rw') j h1 h2
     rw [all_true] at q
     exact q
end
section
variable {X : Cx}
def TopD (K : PySem.W.Frag) (H : Hp) (x y : V) : Prop := ∃ (n : Nat) (a b : Addr) (xs ys : List V), x = .ref a ∧ y = .ref b ∧ n ≤ 50 ∧ xs.length = ys.length ∧ ((SqT K H a xs ∧ SqT K H b ys) ∨ (SqL K H a xs ∧ SqL K H b ys)) ∧ ∀ (j : Nat) x y, xs[j]? = some x → ys[j]? = some y → SameD K H n x y
def rNeS (K : PySem.W.Frag) : R2 := fun x y H Q => TopD K H x y ∧ Q (.bl false) H
theorem op_neS (K : PySem.W.Frag) (hK : X.K = K) (hu : X.A.units + 64 < cLine) : OpR X (compareOp .NotEq) (rNeS K) := by
 subst hK
 intro pins s σ H x y v u Q I rx ry h
 obtain ⟨⟨n, a, b, xs, ys, rfl, rfl, hn, hl, hk, hs⟩, q⟩ := h
 cases rx; cases ry
 show wpAny _ _ (richCompare .NotEq (.ref a) (.ref b)) _ _ _
 rcases hk with ⟨ha, hb⟩ | ⟨ha, hb⟩
 · obtain ⟨its, r1, p1, _⟩ := I.tuple ha
   obtain ⟨its2, r2, p2, _⟩ := I.tuple hb
   refine SeqAt.RcNeAt.tuples (e := fun _ => true) p1 p2 (by omega) (fun j h1 h2 => items_same (R := fun _ _ => True) r1 r2 (fun j x y u w ex ey ru rw' => eqAt_same I (hs j x y ex ey) (by show X.A.units + 1 + n < cLine; omega) ru rw') j h1 h2) _ _ _ _ ⟨.bl false, H, I, ?_, q⟩
   show Value.bool _ = Value.bool _
   rw [all_true, List.size_toArray, List.size_toArray, ← r1.length, ← r2.length, hl]; simp
 · obtain ⟨its, r1, p1, _⟩ := I.list ha
   obtain ⟨its2, r2, p2, _⟩ := I.list hb
   refine SeqAt.RcNeAt.lists (e := fun _ => true) p1.isList p2.isList (by rw [List.size_toArray, List.size_toArray, ← r1.length, ← r2.length, hl]) (by omega) (fun j h1 h2 => items_same (R := fun _ _ => True) r1 r2 (fun j x y u w ex ey ru rw' => eqAt_same I (hs j x y ex ey) (by show X.A.units + 1 + n < cLine; omega) ru rw') j h1 h2) _ _ _ _ ⟨.bl false, H, I, ?_, q⟩
   show Value.bool _ = Value.bool _
   rw [all_true]; rfl
def rIsSeq (K : PySem.W.Frag) : List V → Hp → VK → Prop := fun xs H Q => ∃ (a : Addr) (c : String) (ys : List V) (b : Bool), xs = [.ref a, .ty c] ∧ ((SqT K H a ys ∧ PySem.W.kitOne K (.type "tuple") (.type c) = some b) ∨ (SqL K H a ys ∧ PySem.W.kitOne K (.type "list") (.type c) = some b)) ∧ Q (.bl b) H
theorem callK_isseq (K : PySem.W.Frag) (hK : X.K = K) : CallR X (.builtin "isinstance") (rIsSeq K) := by
 subst hK
 intro pins s σ H xs us Q I r h
 obtain ⟨a, c, ys, b, rfl, hk, q⟩ := h
 obtain ⟨u, w', rfl, ru, rw'⟩ := vals2 r
 cases ru; cases rw'
 have fin : ∀ tk, EP X pins σ Q (.bool b) { s with toks := tk } := fun tk => ⟨.bl b, H, I.tok tk, rfl, q⟩
 rcases hk with ⟨ha, e⟩ | ⟨ha, e⟩
 · obtain ⟨its, r1, p1, _⟩ := I.tuple ha
   obtain ⟨o, h1, h2, _⟩ := p1
   exact PySem.W.kia_one PySem.W.kitx_tuple I.kIn ⟨o, h1, h2⟩ e (fun z => nomatch z) fin
 · obtain ⟨its, r1, p1, _⟩ := I.list ha
   obtain ⟨o, h1, h2, _⟩ := p1.isList
   exact PySem.W.kia_one PySem.W.kitx_list I.kIn ⟨o, h1, h2⟩ e (fun z => nomatch z) fin
end
end L2
namespace L2
open PySem PySem.Spec PyProof.Rows
section
variable {X : Cx}
theorem pe_gint {x : Str} {z : Int} {t : Tok} {pos : Pos} (hg : Gl X x) (hm : X.mg x = some (.int z t)) (hd : (x == ("__debug__" : Str)) = false := by decide) : PE X (.Name x pos) (tC (.int z)) := pe_glob hg hm ⟨t, rfl⟩ hd
end
end L2

set_option Elab.async false
set_option linter.all false
set_option maxRecDepth 100000
set_option maxHeartbeats 4000000
namespace L2
open PySem PySem.Spec PyProof.Rows
section
variable {X : Cx} {CX : CXT} {k : Nat} {f C : Addr} {fd : FuncData} {ps ks : List Str} {sp : Sp} {E : XK} {x m : Str} {p pos apos kpos : Pos} {e o : Expr} {es : List Expr} {kws : List Keyword} {te ta : TE} {t tk : TA} {nm : Option Str}
 {g : List Value → List Value → List Value} {gV : List V → List V → List V}
end
section
variable {X : Cx} {pins : List (Addr × Obj)} {σ : St} {H : Hp} {s : Shared}
end
section
variable {X : Cx}
end
end L2
namespace L2
open PySem PySem.Spec PyProof.Rows
theorem sl_str {X : Cx} : SlR X (fun x lo hi H Q => ∃ z, x = .str z ∧ z.length ≤ sizeLine ∧ Q (.str (Txt.slice z lo hi)) H) := by
 intro pins s σ H x v vl vu lo hi sl Q I rx hs pl pu h
 obtain ⟨z, rfl, hz, q⟩ := h
 obtain ⟨t, rfl⟩ := rx
 refine ⟨"str", _, F.slot_str_getitem.lookup, typeIs_str _ _ _, ?_⟩
 cases pl with
 | none =>
   cases pu with
   | none => exact wpAny_getItem_str_slice (l := none) (u := none) (st := none) hs rfl (post_val_or_str ⟨Nat.le_trans (Txt.slice_le z _ _) hz, fun t' k => ⟨.str _, H, I.tok _, ⟨_, rfl⟩, q⟩⟩)
   | int j uj => exact wpAny_getItem_str_slice (l := none) (u := some (j, uj)) (st := none) hs rfl (post_val_or_str ⟨Nat.le_trans (Txt.slice_le z _ _) hz, fun t' k => ⟨.str _, H, I.tok _, ⟨_, rfl⟩, q⟩⟩)
 | int i ui =>
   cases pu with
   | none => exact wpAny_getItem_str_slice (l := some (i, ui)) (u := none) (st := none) hs rfl (post_val_or_str ⟨Nat.le_trans (Txt.slice_le z _ _) hz, fun t' k => ⟨.str _, H, I.tok _, ⟨_, rfl⟩, q⟩⟩)
   | int j uj => exact wpAny_getItem_str_slice (l := some (i, ui)) (u := some (j, uj)) (st := none) hs rfl (post_val_or_str ⟨Nat.le_trans (Txt.slice_le z _ _) hz, fun t' k => ⟨.str _, H, I.tok _, ⟨_, rfl⟩, q⟩⟩)
end L2

set_option Elab.async false
set_option linter.all false
set_option maxRecDepth 100000
set_option maxHeartbeats 4000000
namespace L2
open PySem PySem.Spec PyProof.Rows
section
variable {X : Cx} {pins : List (Addr × Obj)} {σ : St} {H : Hp} {s : Shared} {h' : Heap}
theorem Inv.turnedL {t' : Nat} {wr : List Addr} (I : Inv X pins σ H s) (k : ∀ b o, b ∉ wr → s.heap.get? b = some o → h'.get? b = some o) (hf : ∀ it ∈ wr, FpOk X pins H it) : Inv X pins σ H { s with heap := h', toks := t' } := by
 have nit : ∀ b u, H b = some u → b ∉ wr := fun b u e z => by rw [(hf b z).1] at e; cases e
 have hL : X.env.locals ∉ wr := fun z => (hf _ z).2.1 rfl
 refine I.step (g' := s.gens) (d' := s.drawn) (ch := wr) (fun b hb => ?_) (fun b o _ _ hc e _ => k b o hc e) (fun b o _ _ hc e _ => ⟨o.slots, k b o hc e⟩) (fun _ _ _ _ n => n)
   (fun b o hc e => ⟨o, k b o hc e⟩) (fun _ _ e => e) (fun _ _ _ e => e) (fun b ps e => ⟨#[], by rw [e]; simp⟩) (fun m hm => ?_) (fun b u e => ?_) I.bare
 · obtain ⟨f0, f1, f2, f3, f4, f5⟩ := hf b hb
   exact ⟨f3, f1, f4, f5⟩
 · obtain ⟨o, es, ep, ho, r⟩ := hm
   exact ⟨o, es, ep, k _ o hL ho, r⟩
 · refine (I.hok b u e).stay (fun c v hc q => k c v ?_ q) (fun _ q => q) fun _ _ q => q
   rcases hc with z | z
   · rw [z]; exact nit b u e
   · exact nit c _ z
end
def hmid (h h2 : Heap) : Heap := ⟨h.objs ++ (h2.objs.toList.drop h.objs.size).toArray, h2.life⟩
theorem mid_lt {h h2 : Heap} {a : Addr} (ha : a < h.objs.size) : (hmid h h2).get? a = h.get? a := by
 have e : (hmid h h2).objs[a]? = h.objs[a]? := Array.getElem?_append_left ha
 unfold Heap.get?
 rw [e]
theorem mid_ge {h h2 : Heap} {a : Addr} (ha : h.objs.size ≤ a) : (hmid h h2).get? a = h2.get? a := by
 have e : (hmid h h2).objs[a]? = h2.objs[a]? := by
   show (h.objs ++ (h2.objs.toList.drop h.objs.size).toArray)[a]? = _
   rw [Array.getElem?_append_right ha, List.getElem?_toArray, List.getElem?_drop, Array.getElem?_toList]
   congr 1
   omega
 unfold Heap.get?
 rw [e]
theorem walk_item {X : Cx} {pins : List (Addr × Obj)} {σ : St} {H : Hp} {s : Shared} {E : Value → Shared → Prop} {it : Addr} {fpW wr fp : List Addr} {n : Nat} {Pt : Nat → Array Value → Prop} {St' : Nat → Heap → Prop} {Mid : Nat → Addr → Heap → Prop} {elts : List Expr} {k : Nat} {pos : Pos} {J : It} {tn : Nat → Heap → Prop} {i : Nat}
   (W : WalksT X.prog X.w X.A it fpW wr n Pt St' Mid) (I : Inv X pins σ H s) (hfp : ∀ b ∈ fp, FpOk X pins H b) (hwr : ∀ b ∈ wr, b ∈ fp) (hsz : ∀ b ∈ fp, b < s.heap.objs.size) (hi : i < n) (hst : St' i s.heap)
   (hv : ∀ vals, Pt i vals → ∃ vs : List V, vs.length ≤ sizeLine ∧ Vals vs vals.toList ∧ ∀ T, H T = none → J.yld i H (.ref T) (upd H T (.tup vs))) (htn : ∀ h, St' (i + 1) h → tn (i + 1) h) :
   wpAny (model X.prog X.w) X.A (pyNext (.ref it)) (fun r s1 => ∃ u, r = some u ∧
     wpAny (model X.prog X.w) X.A (letOwnedTupleGo (.Tuple elts k pos) (.ref it) u) (fun _ s2 => ∃ x H', Inv X pins σ H' s2 ∧ RelV x u ∧ J.yld i H x H' ∧ tn (i + 1) s2.heap ∧ ∀ b ∈ fp, H' b = none) E s1) E s := by
 refine W.item i s _ E hi hst fun T vals h1 tk hPt hT hTup hMid hk => ⟨.ref T, rfl, ?_⟩
 have hap := W.apart i T h1 hMid
 refine W.go elts k pos i T _ _ E hMid fun h2 hSt hk2 => ?_
 obtain ⟨vs, hlen, hvals, hy⟩ := hv vals hPt
 have hTn : H T = none := I.hok.fresh hT
 obtain ⟨o, ho, hoc, m, hod⟩ := hTup
 have ho2 : h2.get? T = some o := hk2 T o hap ho
 have I1 : Inv X pins σ (upd H T (.tup vs)) { s with heap := hmid s.heap h2, toks := tk } := by
   refine I.laid (fun b u e => (mid_lt (Heap.lt_size e)).trans e) hT ?_
   refine ⟨hlen, vals.toList, hvals, ⟨o, (mid_ge hT).trans ho2, hoc, m, ?_⟩⟩
   rw [hod]
 have hne : ∀ b ∈ fp, b ≠ T := fun b hb e => by
   have := hsz b hb
   rw [e] at this
   exact absurd this (Nat.not_lt.mpr hT)
 have I2 := I1.turnedL (h' := h2) (t' := tk) (wr := wr) (fun b ob hb e => ?_) (fun b hb => ?_)
 · exact ⟨.ref T, _, I2, rfl, hy T hTn, htn _ hSt, fun b hb => (upd_ne (hne b hb)).trans (hfp b hb).1⟩
 · by_cases hlt : b < s.heap.objs.size
   · have e : s.heap.get? b = some ob := (mid_lt hlt).symm.trans e
     exact hk2 b ob hb (hk b ob hb e)
   · exact (mid_ge (Nat.le_of_not_lt hlt)).symm.trans e
 · have f := hfp b (hwr b hb)
   exact ⟨(upd_ne (hne b (hwr b hb))).trans f.1, f.2⟩
theorem walk_done {X : Cx} {pins : List (Addr × Obj)} {σ : St} {H : Hp} {s : Shared} {E : Value → Shared → Prop} {it : Addr} {fpW wr fp : List Addr} {n : Nat} {Pt : Nat → Array Value → Prop} {St' : Nat → Heap → Prop} {Mid : Nat → Addr → Heap → Prop}
   (W : WalksT X.prog X.w X.A it fpW wr n Pt St' Mid) (I : Inv X pins σ H s) (hfp : ∀ b ∈ fp, FpOk X pins H b) (hwr : ∀ b ∈ wr, b ∈ fp) (hst : St' n s.heap) :
   wpAny (model X.prog X.w) X.A (pyNext (.ref it)) (fun r s1 => r = none ∧ Inv X pins σ H s1) E s :=
 W.done s _ E hst fun h1 tk hk => ⟨rfl, I.turnedL (h' := h1) (t' := tk) (wr := wr) hk fun b hb => hfp b (hwr b hb)⟩
end L2
namespace L2
open PySem PySem.Spec PyProof.Rows
theorem apartN (I l1 l2 : Nat) (h1 : @LT.lt Nat _ l1 I) (h2 : @LT.lt Nat _ l2 I) : ZipApart (I + 4) (I + 2) (I + 3) I (I + 1) l1 l2 := by
 constructor <;> (intro e; have e' := @id (@Eq Nat _ _) e; omega)
end L2
namespace L2
open PySem PySem.Spec PyProof.Rows
end L2

set_option Elab.async false
set_option linter.all false
set_option maxRecDepth 100000
set_option maxHeartbeats 4000000
namespace L2
open PySem PySem.Spec PyProof.Rows
theorem take_sum_le (ns : List Nat) (k : Nat) : (ns.take k).sum ≤ ns.sum := by
 have e := congrArg List.sum (List.take_append_drop k ns)
 rw [List.sum_append] at e
 omega
end L2

set_option Elab.async false
set_option linter.all false
set_option maxRecDepth 100000
set_option maxHeartbeats 4000000
namespace L2
open PySem PySem.Spec PyProof.Rows
theorem countP_eqU {y : V} : ∀ {xs : List V} {us : List Value}, Vals xs us → xs.all flatV = true → us.countP (eqU y) = xs.countP (fun z => eqV z y)
 | _, _, .nil, _ => rfl
 | x :: xs, u :: us, .cons r t, f => by
   rw [List.all_cons, Bool.and_eq_true] at f
   rw [List.countP_cons, List.countP_cons, countP_eqU t f.2, eqU_of r f.1]
section
variable {X : Cx}
def rCountL (K : PySem.W.Frag) : V → List V → Hp → VK → Prop := fun x vs H Q => ∃ (p : Addr) (xs : List V) (y : V), x = .ref p ∧ vs = [y] ∧ SqL K H p xs ∧ flatV y = true ∧ xs.all flatV = true ∧ Q (.int (xs.countP fun z => eqV z y : Nat)) H
theorem mt_countL : MtR X "list.count" (rCountL X.K) := by
 intro pins s σ H x vs v us Q I rx rv h
 obtain ⟨p, xs, y, rfl, rfl, hq, fy, fs, q⟩ := h
 cases rx
 obtain ⟨u, rfl, ru⟩ := rv.one
 obtain ⟨its, r, pl, _⟩ := I.list hq
 obtain ⟨⟨cls, dd, data, sl⟩, ho, hc, n, hd⟩ := pl.isList
 simp only at hc hd
 subst hc hd
 refine call_meets F.slot_list_count ⟨_, ho, rfl⟩ F.entry_list_count (F.args_list_count_2 _ _) (SeqAt.list_countAt p its.toArray n dd sl u (eqU y)) ⟨ho, fun w hw => mem_eqAt ru fy r fs w (by simpa using hw), ?_⟩
 refine ⟨.int _, H, I.tok _, ⟨_, rfl⟩, ?_⟩
 rw [show its.toArray.toList = its from rfl, countP_eqU r fs]
 exact q
theorem mtK_countL (K : PySem.W.Frag) (h : X.K = K) : MtR X "list.count" (rCountL K) := by subst h; exact mt_countL
theorem OpR.orR {f : Value → Value → Sem Value} {r r' : R2} (h : OpR X f r) (h' : OpR X f r') : OpR X f (fun x y H Q => r x y H Q ∨ r' x y H Q) := by
 intro pins s σ H x y v u Q I rx ry q
 rcases q with q | q
 · exact h pins s σ H x y v u Q I rx ry q
 · exact h' pins s σ H x y v u Q I rx ry q
def repS (z : Str) (n : Nat) : Str := ⟨(List.replicate n z.cps).foldl (· ++ ·) #[]⟩
end
section
variable {X : Cx}
end
end L2

set_option Elab.async false
set_option linter.all false
set_option maxRecDepth 100000
set_option maxHeartbeats 4000000
namespace L2
open PySem PySem.Spec PyProof.Rows
section
variable {prog : Program} {w : World} {A : Around} {E : Value → Shared → Prop} {s : Shared}
theorem zd_item {z TI TO i1 i2 l : Addr} {n1 n2 k : Nat} {P1 P2 : Nat → Value → Prop} {S1 S2 : Nat → Heap → Prop} {a b : Value} {Q : Value → Shared → Prop} (D : ZipApart z TI TO i1 i2 l l)
   (G1 : Draws prog w A i1 [i1] n1 P1 S1) (G2 : Draws prog w A i2 [i2, l] n2 P2 S2) (hz : IsZip s.heap z TI TO .none) (hTI : IsPair s.heap TI (.ref i1) (.ref i2)) (hTO : IsPair s.heap TO a b)
   (g1 : S1 k s.heap) (g2 : S2 k s.heap) (k1 : k < n1) (k2 : k < n2)
   (hQ : ∀ h' tk x y, P1 k x → P2 k y → IsZip h' z TI TO (rawInt s.heap.objs.size) → IsPair h' TO x y → S1 (k + 1) h' → S2 (k + 1) h' → IsPair h' s.heap.objs.size x y →
     (∀ c o, c ≠ z → c ≠ TO → c ≠ i1 → c ≠ i2 → s.heap.get? c = some o → h'.get? c = some o) → Q (.ref s.heap.objs.size) { s with heap := h', toks := tk }) :
   wpAny (model prog w) A (Builtin.«zip.__next__» ⟨[.ref z], []⟩) (fun fin s' => ∃ v, fin = .done (.ret v) ∧ Q v s') E s := by
 have e1 : ∀ {i : Nat} {h h' : Heap} {c : Addr}, Heap.SameBut c h h' → i1 ≠ c → S1 i h → S1 i h' := fun hs hn g => G1.frame _ _ _ g fun b hb o e => by
   rw [List.mem_singleton.mp hb] at e ⊢; exact hs.extBut _ _ hn e
 have e2 : ∀ {i : Nat} {h h' : Heap} {c : Addr}, Heap.SameBut c h h' → i2 ≠ c → l ≠ c → S2 i h → S2 i h' := fun hs hn hl g => G2.frame _ _ _ g fun b hb o e => by
   rcases List.mem_cons.mp hb with q | q
   · rw [q] at e ⊢; exact hs.extBut _ _ hn e
   · rw [List.mem_singleton.mp q] at e ⊢; exact hs.extBut _ _ hl e
 show wpAny _ _ (field (.ref z) 2 >>= _) _ _ _
 refine wpAny_bind (wpAny_field hz rfl (x := .bool false) rfl ?_)
 show wpAny _ _ (field (.ref z) 3 >>= _) _ _ _
 refine wpAny_bind (wpAny_field hz rfl (x := .ref TI) rfl (wpAny_bind (wpAny_seqItems hTI rfl ?_)))
 show wpAny _ _ (Builtin.SmallTypes.ownedTupleIsFree (.ref z) >>= _) _ _ _
 refine wpAny_bind ?_
 unfold Builtin.SmallTypes.ownedTupleIsFree
 refine wpAny_bind (wpAny_field hz rfl (x := .none) rfl (wpAny_pure ?_))
 simp only [if_true]
 refine wpAny_bind (wpAny_rule (wpAny_bind (wpAny_field hz rfl (x := .ref TO) rfl (wpAny_bind (wpAny_setField_rec hz (by simp) fun A1 z1 q1 => ?_)))))
 replace z1 : IsZip A1 z TI TO .ellipsis := z1
 refine wpAny_bind ?_
 simp only [List.zipIdx_cons, List.zipIdx_nil, List.forIn_cons, List.forIn_nil]
 refine wpAny_bind (wpAny_bind (wpAny_onRaise ?_))
 show wpAny _ _ (Builtin.SmallTypes.nextOf (.ref i1) >>= _) _ _ _
 refine wpAny_bind (G1.item k _ _ _ k1 (e1 q1 D.i1z g1) fun x A2 tk px g1' q2 => wpAny_pure ?_)
 have o2 : IsPair A2 TO a b := q2.extBut _ _ D.TOi1 (q1.extBut _ _ D.TOz hTO)
 refine wpAny_bind (wpAny_seqItems o2 rfl (wpAny_bind (wpAny_updateSeq_pair o2 fun A3 o3 q3 => ?_)))
 replace o3 : IsPair A3 TO x b := o3
 refine wpAny_bind (wpAny_letGo (wpAny_pure (wpAny_bind (wpAny_bind (wpAny_onRaise ?_)))))
 show wpAny _ _ (Builtin.SmallTypes.nextOf (.ref i2) >>= _) _ _ _
 refine wpAny_bind (G2.item k _ _ _ k2 (e2 q3 D.TOi2.symm D.l2TO (e2 q2 D.i12.symm D.l2i1 (e2 q1 D.i2z D.l2z g2))) fun y A4 tk2 py g2' q4 => wpAny_pure ?_)
 have o4 : IsPair A4 TO x b := q4.extBut _ _ D.TOi2 o3
 refine wpAny_bind (wpAny_seqItems o4 rfl (wpAny_bind (wpAny_updateSeq_pair o4 fun A5 o5 q5 => ?_)))
 replace o5 : IsPair A5 TO x y := o5
 refine wpAny_bind (wpAny_letGo (wpAny_pure (wpAny_pure (wpAny_bind (wpAny_seqItems o5 rfl (wpAny_bind (wpAny_newTuple ?_)))))))
 have sz : A5.objs.size = s.heap.objs.size := by rw [q5.1, q4.1, q3.1, q2.1, q1.1]
 have z5 : IsZip A5 z TI TO .ellipsis := q5.extBut _ _ D.TOz.symm (q4.extBut _ _ D.i2z.symm (q3.extBut _ _ D.TOz.symm (q2.extBut _ _ D.i1z.symm z1)))
 have w1 : S1 (k + 1) A5 := e1 q5 D.TOi1.symm (e1 q4 D.i12 (e1 q3 D.TOi1.symm g1'))
 have w2 : S2 (k + 1) A5 := e2 q5 D.TOi2.symm D.l2TO g2'
 have kp : ∀ c o, c ≠ z → c ≠ TO → c ≠ i1 → c ≠ i2 → s.heap.get? c = some o → A5.get? c = some o := fun c o c1 c2 c3 c4 e => q5.extBut _ _ c2 (q4.extBut _ _ c4 (q3.extBut _ _ c2 (q2.extBut _ _ c3 (q1.extBut _ _ c1 e))))
 have lz : z < A5.objs.size := Heap.lt_size z5
 have z6 : IsZip (A5.push { cls := .type "tuple", data := .seq #[x, y] }) z TI TO .ellipsis := Heap.get?_push_of_some _ z5
 show wpAny _ _ (Builtin.SmallTypes.ownedTupleHandOut (.ref z) (.ref A5.objs.size) >>= _) _ _ _
 refine wpAny_bind ?_
 unfold Builtin.SmallTypes.ownedTupleHandOut
 refine wpAny_bind (wpAny_setField_rec z6 (by simp) fun A7 z7 q7 => ?_)
 replace z7 : IsZip A7 z TI TO (rawInt A5.objs.size) := z7
 refine wpAny_setField_rec z7 (by simp) fun A8 z8 q8 => ?_
 replace z8 : IsZip A8 z TI TO (rawInt A5.objs.size) := z8
 have up : ∀ c o, c ≠ z → A5.get? c = some o → A8.get? c = some o := fun c o c1 e => q8.extBut _ _ c1 (q7.extBut _ _ c1 (Heap.get?_push_of_some _ e))
 have t8 : IsPair A8 A5.objs.size x y := q8.extBut _ _ (Nat.ne_of_gt lz) (q7.extBut _ _ (Nat.ne_of_gt lz) (Heap.get?_push_size _ rfl))
 have v1 : S1 (k + 1) A8 := G1.frame _ _ _ w1 fun b hb o e => by
   rw [List.mem_singleton.mp hb] at e ⊢; exact up _ o D.i1z e
 have v2 : S2 (k + 1) A8 := G2.frame _ _ _ w2 fun b hb o e => by
   rcases List.mem_cons.mp hb with q | q
   · rw [q] at e ⊢; exact up _ o D.i2z e
   · rw [List.mem_singleton.mp q] at e ⊢; exact up _ o D.l2z e
 rw [sz] at z8 t8
 refine wpAny_pure ⟨_, rfl, ?_⟩
 show Q (.ref A5.objs.size) _
 rw [sz]
 exact hQ A8 _ x y px py z8 (up _ _ D.TOz o5) v1 v2 t8 fun c o c1 c2 c3 c4 e => up c o c1 (kp c o c1 c2 c3 c4 e)
theorem zd_end {z TI TO i1 i2 l : Addr} {n1 n2 k : Nat} {P1 P2 : Nat → Value → Prop} {S1 S2 : Nat → Heap → Prop} {a b : Value} {Q : Fin → Shared → Prop} (D : ZipApart z TI TO i1 i2 l l)
   (G1 : Draws prog w A i1 [i1] n1 P1 S1) (G2 : Draws prog w A i2 [i2, l] n2 P2 S2) (hz : IsZip s.heap z TI TO .none) (hTI : IsPair s.heap TI (.ref i1) (.ref i2)) (hTO : IsPair s.heap TO a b)
   (g1 : S1 k s.heap) (g2 : S2 k s.heap) (hk : k = n1 ∨ (k < n1 ∧ k = n2))
   (hE : ∀ h' tk e, (∀ c o, c ≠ z → c ≠ TO → c ≠ i1 → c ≠ i2 → s.heap.get? c = some o → h'.get? c = some o) → (∃ o, h'.get? e = some o ∧ o.cls = .type "StopIteration") → E (.ref e) { s with heap := h', toks := tk }) :
   wpAny (model prog w) A (Builtin.«zip.__next__» ⟨[.ref z], []⟩) Q E s := by
 have e1 : ∀ {i : Nat} {h h' : Heap} {c : Addr}, Heap.SameBut c h h' → i1 ≠ c → S1 i h → S1 i h' := fun hs hn g => G1.frame _ _ _ g fun b hb o e => by
   rw [List.mem_singleton.mp hb] at e ⊢; exact hs.extBut _ _ hn e
 have e2 : ∀ {i : Nat} {h h' : Heap} {c : Addr}, Heap.SameBut c h h' → i2 ≠ c → l ≠ c → S2 i h → S2 i h' := fun hs hn hl g => G2.frame _ _ _ g fun b hb o e => by
   rcases List.mem_cons.mp hb with q | q
   · rw [q] at e ⊢; exact hs.extBut _ _ hn e
   · rw [List.mem_singleton.mp q] at e ⊢; exact hs.extBut _ _ hl e
 show wpAny _ _ (field (.ref z) 2 >>= _) _ _ _
 refine wpAny_bind (wpAny_field hz rfl (x := .bool false) rfl ?_)
 show wpAny _ _ (field (.ref z) 3 >>= _) _ _ _
 refine wpAny_bind (wpAny_field hz rfl (x := .ref TI) rfl (wpAny_bind (wpAny_seqItems hTI rfl ?_)))
 show wpAny _ _ (Builtin.SmallTypes.ownedTupleIsFree (.ref z) >>= _) _ _ _
 refine wpAny_bind ?_
 unfold Builtin.SmallTypes.ownedTupleIsFree
 refine wpAny_bind (wpAny_field hz rfl (x := .none) rfl (wpAny_pure ?_))
 simp only [if_true]
 refine wpAny_bind (wpAny_rule (wpAny_bind (wpAny_field hz rfl (x := .ref TO) rfl (wpAny_bind (wpAny_setField_rec hz (by simp) fun A1 z1 q1 => ?_)))))
 replace z1 : IsZip A1 z TI TO .ellipsis := z1
 refine wpAny_bind ?_
 simp only [List.zipIdx_cons, List.zipIdx_nil, List.forIn_cons, List.forIn_nil]
 refine wpAny_bind (wpAny_bind (wpAny_onRaise ?_))
 show wpAny _ _ (Builtin.SmallTypes.nextOf (.ref i1) >>= _) _ _ _
 rcases hk with rfl | ⟨k1, rfl⟩
 · refine wpAny_bind (G1.done _ _ _ (e1 q1 D.i1z g1) fun A2 e q2 he => ?_)
   obtain ⟨oe, hoe, hce⟩ := he
   have z2 : IsZip A2 z TI TO .ellipsis := q2 _ _ D.i1z.symm z1
   have ez : e ≠ z := fun q => by rw [q, z2] at hoe; cases hoe; exact absurd (show Value.type "zip" = Value.type "StopIteration" from hce) (by decide)
   exact wpAny_setField_rec z2 (by simp) fun A3 _ q3 => hE A3 _ e (fun c o c1 _ c3 _ p => q3.extBut _ _ c1 (q2 _ _ c3 (q1.extBut _ _ c1 p))) ⟨oe, q3.extBut _ _ ez hoe, hce⟩
 · refine wpAny_bind (G1.item k _ _ _ k1 (e1 q1 D.i1z g1) fun x A2 tk px g1' q2 => wpAny_pure ?_)
   have o2 : IsPair A2 TO a b := q2.extBut _ _ D.TOi1 (q1.extBut _ _ D.TOz hTO)
   refine wpAny_bind (wpAny_seqItems o2 rfl (wpAny_bind (wpAny_updateSeq_pair o2 fun A3 o3 q3 => ?_)))
   refine wpAny_bind (wpAny_letGo (wpAny_pure (wpAny_bind (wpAny_bind (wpAny_onRaise ?_)))))
   show wpAny _ _ (Builtin.SmallTypes.nextOf (.ref i2) >>= _) _ _ _
   refine wpAny_bind (G2.done _ _ _ (e2 q3 D.TOi2.symm D.l2TO (e2 q2 D.i12.symm D.l2i1 (e2 q1 D.i2z D.l2z g2))) fun A4 e q4 he => ?_)
   obtain ⟨oe, hoe, hce⟩ := he
   have z4 : IsZip A4 z TI TO .ellipsis := q4 _ _ D.i2z.symm (q3.extBut _ _ D.TOz.symm (q2.extBut _ _ D.i1z.symm z1))
   have ez : e ≠ z := fun q => by rw [q, z4] at hoe; cases hoe; exact absurd (show Value.type "zip" = Value.type "StopIteration" from hce) (by decide)
   exact wpAny_setField_rec z4 (by simp) fun A5 _ q5 => hE A5 _ e (fun c o c1 c2 c3 c4 p => q5.extBut _ _ c1 (q4 _ _ c4 (q3.extBut _ _ c2 (q2.extBut _ _ c3 (q1.extBut _ _ c1 p))))) ⟨oe, q5.extBut _ _ ez hoe, hce⟩
def IsSI (h : Heap) (it : Addr) (x : Str) (t : Tok) (i : Nat) : Prop := h.IsStrIter it "str_ascii_iterator" x t i ∨ h.IsStrIter it "str_iterator" x t i
theorem si_draws (hh : A.handled = none) (it : Addr) (x : Str) (t : Tok) : Draws prog w A it [it] x.cps.size (fun i v => ∃ c u, x.cps[i]? = some c ∧ v = .str ⟨#[c]⟩ u) (fun i h => IsSI h it x t i) where
 live := fun i h st => by
   rcases st with st | st
   · exact (Draws.strAscii (prog := prog) (w := w) hh it x t).live i h st
   · exact (Draws.strWide (prog := prog) (w := w) hh it x t).live i h st
 frame := fun i h h' st hk => by
   rcases st with st | st
   · exact .inl ((Draws.strAscii (prog := prog) (w := w) hh it x t).frame i h h' st hk)
   · exact .inr ((Draws.strWide (prog := prog) (w := w) hh it x t).frame i h h' st hk)
 item := fun i s Q E hi st hQ => by
   rcases st with st | st
   · exact (Draws.strAscii (prog := prog) (w := w) hh it x t).item i s Q E hi st fun v h' tk p q r => hQ v h' tk p (.inl q) r
   · exact (Draws.strWide (prog := prog) (w := w) hh it x t).item i s Q E hi st fun v h' tk p q r => hQ v h' tk p (.inr q) r
 done := fun s Q E st hE => by
   rcases st with st | st
   · exact (Draws.strAscii (prog := prog) (w := w) hh it x t).done s Q E st hE
   · exact (Draws.strWide (prog := prog) (w := w) hh it x t).done s Q E st hE
theorem si_at {h h' : Heap} {it : Addr} {x : Str} {t : Tok} {i : Nat} (q : IsSI h it x t i) (e : ∀ o, h.get? it = some o → h'.get? it = some o) : IsSI h' it x t i := by
 rcases q with ⟨o, ho, r⟩ | ⟨o, ho, r⟩
 · exact .inl ⟨o, e _ ho, r⟩
 · exact .inr ⟨o, e _ ho, r⟩
theorem si_has {h : Heap} {it : Addr} {x : Str} {t : Tok} {i : Nat} (q : IsSI h it x t i) : ∃ o, h.get? it = some o ∧ ∃ vs, o.data = .fields vs := by
 rcases q with ⟨o, ho, _, r⟩ | ⟨o, ho, _, r⟩
 · exact ⟨o, ho, _, r⟩
 · exact ⟨o, ho, _, r⟩
theorem zs_walks (hh : A.handled = none) (z TI TO i1 i2 l : Addr) (D : ZipApart z TI TO i1 i2 l l) (x : Str) (t : Tok) (ys : Array Value) :
   WalksT prog w A z [z, TI, TO, i1, i2, l] [z, TO, i1, i2] (min x.cps.size ys.size)
     (fun i vals => ∃ c u y, x.cps[i]? = some c ∧ ys[i]? = some y ∧ vals = #[.str ⟨#[c]⟩ u, y])
     (fun i h => IsZip h z TI TO .none ∧ IsPair h TI (.ref i1) (.ref i2) ∧ (∃ a b, IsPair h TO a b) ∧ IsSI h i1 x t i ∧ h.IsListIter i2 l i ∧ h.IsList l ys)
     (fun i T h => IsZip h z TI TO (rawInt T) ∧ IsPair h TI (.ref i1) (.ref i2) ∧ (∃ a b, IsPair h TO a b) ∧ IsSI h i1 x t (i + 1) ∧ h.IsListIter i2 l (i + 1) ∧ h.IsList l ys ∧ T ≠ z ∧ T ≠ TO ∧ T ≠ i1 ∧ T ≠ i2) where
 sub := fun c hc => by
   simp only [List.mem_cons, List.mem_nil_iff, or_false] at hc ⊢
   rcases hc with q | q | q | q <;> simp [q]
 frame := fun i h h' st hk => by
   obtain ⟨p1, p2, ⟨a, b, p3⟩, p4, p5, p6⟩ := st
   exact ⟨hk z (by simp) _ p1, hk TI (by simp) _ p2, ⟨a, b, hk TO (by simp) _ p3⟩, si_at p4 fun o e => hk i1 (by simp) o e, p5.at fun o e => hk i2 (by simp) o e, p6.at fun o e => hk l (by simp) o e⟩
 item := fun i s Q E hi st hQ => by
   obtain ⟨p1, p2, ⟨a, b, p3⟩, p4, p5, p6⟩ := st
   have hT : s.TypeIs (.ref z) "zip" := ⟨_, p1, rfl⟩
   unfold pyNext
   refine wpAny_bind (wpAny_attempt (wpAny_callSpecial?_slot (name := Str.ofString "__next__") hT F.slot_zip_next (wpAny_call_entry F.slot_zip_next hT F.entry_zip_next ?_ (F.args_zip_next_1 _))))
   refine zd_item (S1 := fun i h => IsSI h i1 x t i) (S2 := fun i h => h.IsListIter i2 l i ∧ h.IsList l ys) D (si_draws (A := A.in1) hh i1 x t) (Draws.list (A := A.in1) hh i2 l D.l2i2 ys) p1 p2 p3 p4 ⟨p5, p6⟩ (Nat.lt_of_lt_of_le hi (Nat.min_le_left ..)) (Nat.lt_of_lt_of_le hi (Nat.min_le_right ..)) fun h' tk u y pu py r1 r2 r3 r4 r5 kp => ?_
   obtain ⟨c, tu, hc, rfl⟩ := pu
   have lt : ∀ {c o}, s.heap.get? c = some o → s.heap.objs.size ≠ c := fun e => Nat.ne_of_gt (Heap.lt_size e)
   refine wpAny_pure (hQ s.heap.objs.size #[.str ⟨#[c]⟩ tu, y] h' tk ⟨c, tu, y, hc, py, rfl⟩ (Nat.le_refl _) ⟨_, r5, rfl, _, rfl⟩ ⟨r1, kp _ _ D.TIz D.TITO D.TIi1 D.TIi2 p2, ⟨_, _, r2⟩, r3, r4.1, r4.2, lt p1, lt p3, ?_, ?_⟩ fun c o hc e => kp c o (fun q => hc (by simp [q])) (fun q => hc (by simp [q])) (fun q => hc (by simp [q])) (fun q => hc (by simp [q])) e)
   · obtain ⟨o, ho, _⟩ := si_has p4; exact lt ho
   · obtain ⟨o, ho, _⟩ := p5; exact lt ho
 go := fun elts k pos i T s Q E hm hQ => by
   obtain ⟨p1, p2, ⟨a, b, p3⟩, p4, p5, p6, _⟩ := hm
   refine wpAny_letOwnedTupleGo_zip p1 fun h' z' q => hQ h' ⟨z', q.extBut _ _ D.TIz p2, ⟨a, b, q.extBut _ _ D.TOz p3⟩, si_at p4 fun o e => q.extBut _ _ D.i1z e, p5.extBut q.extBut D.i2z, p6.extBut q.extBut D.l2z⟩ fun c o hc e => q.extBut _ _ (fun y => hc (by simp [y])) e
 apart := fun i T h hm hT => by
   obtain ⟨_, _, _, _, _, _, t1, t2, t3, t4⟩ := hm
   simp only [List.mem_cons, List.mem_nil_iff, or_false] at hT
   rcases hT with q | q | q | q
   · exact t1 q
   · exact t2 q
   · exact t3 q
   · exact t4 q
 done := fun s Q E st hQ => by
   obtain ⟨p1, p2, ⟨a, b, p3⟩, p4, p5, p6⟩ := st
   have hT : s.TypeIs (.ref z) "zip" := ⟨_, p1, rfl⟩
   unfold pyNext
   refine wpAny_bind (wpAny_attempt (wpAny_callSpecial?_slot (name := Str.ofString "__next__") hT F.slot_zip_next (wpAny_call_entry F.slot_zip_next hT F.entry_zip_next ?_ (F.args_zip_next_1 _))))
   refine zd_end (S1 := fun i h => IsSI h i1 x t i) (S2 := fun i h => h.IsListIter i2 l i ∧ h.IsList l ys) D (si_draws (A := A.in1) hh i1 x t) (Draws.list (A := A.in1) hh i2 l D.l2i2 ys) p1 p2 p3 p4 ⟨p5, p6⟩ ?_ fun h' tk e kp he => ?_
   · by_cases q : x.cps.size ≤ ys.size
     · exact .inl (Nat.min_eq_left q)
     · exact .inr ⟨by omega, Nat.min_eq_right (by omega)⟩
   · obtain ⟨o, ho, hc⟩ := he
     refine wpAny_bind (wpAny_isInstance (T := "StopIteration") (b := true) ⟨o, ho, hc⟩ isSubtype_stop (wpAny_pure (hQ _ _ fun c o hc e => kp c o (fun q => hc (by simp [q])) (fun q => hc (by simp [q])) (fun q => hc (by simp [q])) (fun q => hc (by simp [q])) e)))
 self := fun i s Q E st hQ => wpAny_pyIter_zip st.1 hQ
end
def Itzs (K : PySem.W.Frag) (z : Str) (b : Addr) : It :=
 ⟨fun i H => ∃ ys c y, SqL K H b ys ∧ z.cps[i]? = some c ∧ ys[i]? = some y,
  fun i H v H' => ∃ t c y, H t = none ∧ v = .ref t ∧ H' = upd H t (.tup [.str (sg c), y]) ∧ z.cps[i]? = some c ∧ (∀ ys, SqL K H b ys → ys[i]? = some y),
  fun i H => ∃ ys, SqL K H b ys ∧ min z.cps.size ys.length = i⟩
theorem turn_zipS {P : Program} {w : World} {K : PySem.W.Frag} {elts : List Expr} {k : Nat} {pos : Pos} {z TI TO i1 i2 l : Addr} {x : Str} {t : Tok} (D : ZipApart z TI TO i1 i2 l l) :
   Turn P w K (.Tuple elts k pos) (Itzs K x l) [z, TI, TO, i1, i2] z (fun i h => IsZip h z TI TO .none ∧ IsPair h TI (.ref i1) (.ref i2) ∧ (∃ a b, IsPair h TO a b) ∧ IsSI h i1 x t i ∧ h.IsListIter i2 l i) where
 mem := by simp
 obj := fun i h st b hb => by
   obtain ⟨p1, p2, ⟨a, c, p3⟩, p4, ⟨o2, e2, c2, d2⟩⟩ := st
   simp only [List.mem_cons, List.mem_nil_iff, or_false] at hb
   rcases hb with rfl | rfl | rfl | rfl | rfl
   · exact ⟨_, p1, fun v q => by cases q⟩
   · exact ⟨_, p2, fun v q => by cases q⟩
   · exact ⟨_, p3, fun v q => by cases q⟩
   · obtain ⟨o, ho, vs, hv⟩ := si_has p4; exact ⟨o, ho, fun v q => by rw [hv] at q; cases q⟩
   · exact ⟨_, e2, fun v q => by rw [d2] at q; cases q⟩
 keep := fun i h h' st k => by
   obtain ⟨p1, p2, ⟨a, c, p3⟩, p4, p5⟩ := st
   exact ⟨k z (by simp) _ p1, k TI (by simp) _ p2, ⟨a, c, k TO (by simp) _ p3⟩, si_at p4 fun o e => k i1 (by simp) o e, p5.at fun o e => k i2 (by simp) o e⟩
 item := by
   intro X hP hw hK hc i pins s σ H E I hf st hg
   subst hP hw hK
   obtain ⟨ys, c, y, hy, ec, ey⟩ := hg
   obtain ⟨its, rv, p, hz⟩ := I.list hy
   obtain ⟨u, hu, ru⟩ := rv.get ey
   obtain ⟨p1, p2, p3, p4, p5⟩ := id st
   have W := zs_walks (prog := X.prog) (w := X.w) (A := X.A) (I.ok.hd hc) z TI TO i1 i2 l D x t its.toArray
   have hsub : ∀ b ∈ [z, TO, i1, i2], b ∈ [z, TI, TO, i1, i2] := by
     intro b hb
     simp only [List.mem_cons, List.mem_nil_iff, or_false] at hb ⊢
     rcases hb with q | q | q | q <;> simp [q]
   refine walk_item (J := Itzs X.K x l) (tn := fun i h => IsZip h z TI TO .none ∧ IsPair h TI (.ref i1) (.ref i2) ∧ (∃ a b, IsPair h TO a b) ∧ IsSI h i1 x t i ∧ h.IsListIter i2 l i) W I hf hsub ?_ ?_ ?_ ?_ ?_
   · intro b hb
     obtain ⟨a', b', p3⟩ := p3
     obtain ⟨o1, e1, _⟩ := si_has p4
     obtain ⟨o2, e2, _⟩ := p5
     simp only [List.mem_cons, List.mem_nil_iff, or_false] at hb
     rcases hb with rfl | rfl | rfl | rfl | rfl
     · exact Heap.lt_size p1
     · exact Heap.lt_size p2
     · exact Heap.lt_size p3
     · exact Heap.lt_size e1
     · exact Heap.lt_size e2
   · have h1 := (Array.getElem?_eq_some_iff.mp ec).1
     have h2 := (List.getElem?_eq_some_iff.mp hu).1
     simp only [List.size_toArray]
     omega
   · exact ⟨p1, p2, p3, p4, p5, p.isList⟩
   · rintro vals ⟨c', tu, v2, q1, q2, rfl⟩
     rw [ec] at q1; cases q1
     have q2 : its[i]? = some v2 := by simpa using q2
     rw [hu] at q2; cases q2
     exact ⟨[.str (sg c), y], (by show 2 ≤ sizeLine; decide), .cons ⟨tu, rfl⟩ (.cons ru .nil), fun T hT => ⟨T, c, y, hT, rfl, rfl, ec, fun zs hz => by rw [I.list_inj hz hy]; exact ey⟩⟩
   · exact fun h q => ⟨q.1, q.2.1, q.2.2.1, q.2.2.2.1, q.2.2.2.2.1⟩
 done := by
   intro X hP hw hK hc i pins s σ H E I hf st hg
   subst hP hw hK
   obtain ⟨ys, hy, hmin⟩ := hg
   obtain ⟨its, rv, p, hz⟩ := I.list hy
   obtain ⟨p1, p2, p3, p4, p5⟩ := id st
   have e2 : its.toArray.size = ys.length := by rw [rv.length]; exact List.size_toArray ..
   have e : i = min x.cps.size its.toArray.size := by rw [e2, hmin]
   subst e
   have W := zs_walks (prog := X.prog) (w := X.w) (A := X.A) (I.ok.hd hc) z TI TO i1 i2 l D x t its.toArray
   have hsub : ∀ b ∈ [z, TO, i1, i2], b ∈ [z, TI, TO, i1, i2] := by
     intro b hb
     simp only [List.mem_cons, List.mem_nil_iff, or_false] at hb ⊢
     rcases hb with q | q | q | q <;> simp [q]
   exact walk_done W I hf hsub ⟨p1, p2, p3, p4, p5, p.isList⟩
 self := fun _ _ _ _ _ st h => wpAny_pyIter_zip st.1 h
def siObj (x : Str) (t : Tok) : Obj := { cls := .type (if x.cps.all (· < 128) = true then "str_ascii_iterator" else "str_iterator"), data := .fields #[.str x t, .int 0 0] }
theorem si_new {h : Heap} {it : Addr} {x : Str} {t : Tok} (e : h.get? it = some (siObj x t)) : IsSI h it x t 0 := by
 unfold siObj at e
 cases ha : x.cps.all (· < 128)
 · rw [ha, if_neg (by decide)] at e; exact .inr ⟨_, e, rfl, rfl⟩
 · rw [ha, if_pos rfl] at e; exact .inl ⟨_, e, rfl, rfl⟩
section
variable {prog : Program} {w : World} {A : Around} {E : Value → Shared → Prop} {s : Shared}
theorem si_iter {x : Str} {t : Tok} {Q : Value → Shared → Prop} (hQ : Q (.ref s.heap.objs.size) { s with heap := s.heap.push (siObj x t) }) : wpAny (model prog w) A (pyIter (.str x t)) Q E s := by
 unfold siObj at hQ
 cases ha : x.cps.all (· < 128)
 · rw [ha, if_neg (by decide)] at hQ; exact wpAny_pyIter_wide ha hQ
 · rw [ha, if_pos rfl] at hQ; exact wpAny_pyIter_ascii ha hQ
end
abbrev zs1 (h : Heap) (o : Obj) : Heap := h.push o
abbrev zs2 (h : Heap) (o : Obj) (l : Addr) : Heap := (zs1 h o).push { cls := .type "list_iterator", data := .fields #[.ref l, .int 0 0] }
abbrev zs3 (h : Heap) (o : Obj) (l : Addr) : Heap := (zs2 h o l).push { cls := .type "tuple", data := .seq #[.ref h.objs.size, .ref (zs1 h o).objs.size] }
abbrev zs4 (h : Heap) (o : Obj) (l : Addr) : Heap := (zs3 h o l).push { cls := .type "tuple", data := .seq #[.none, .none] }
abbrev zs5 (h : Heap) (o : Obj) (l : Addr) : Heap := (zs4 h o l).push { cls := .type "zip", data := .fields #[.none, .bool false, .bool false, .ref (zs2 h o l).objs.size, .ref (zs3 h o l).objs.size] }
theorem zs_meets (x : Str) (t : Tok) (l : Addr) (ys : Array Value) : Meets (Builtin.«zip.__new__» ⟨[.type "zip", .str x t, .ref l], []⟩) (fun _ R s => s.heap.IsList l ys ∧ R (.ok (.ret (.ref (zs4 s.heap (siObj x t) l).objs.size))) { s with heap := zs5 s.heap (siObj x t) l }) :=
 .of_wp fun prog w A R s h => by
   obtain ⟨hp, g, d, tk, os⟩ := s
   obtain ⟨hl, h⟩ := h
   have hsub := sub_zip
   have hL : Heap.IsList (Shared.heap ⟨hp.push (siObj x t), g, d, tk, os⟩) l ys := Heap.IsList.push hl _
   wp_walk using si_iter, wpAny_pyIter_list hL
   exact ⟨_, rfl, h⟩
section
variable {prog : Program} {w : World} {A : Around} {E : Value → Shared → Prop} {s : Shared}
theorem call_zipS {x : Str} {t : Tok} {l : Addr} {ys : Array Value} {Q : Value → Shared → Prop} (hl : s.heap.IsList l ys)
   (h : ∀ h', IsZip h' (s.heap.objs.size + 4) (s.heap.objs.size + 2) (s.heap.objs.size + 3) .none → IsPair h' (s.heap.objs.size + 2) (.ref s.heap.objs.size) (.ref (s.heap.objs.size + 1)) → IsPair h' (s.heap.objs.size + 3) .none .none →
     IsSI h' s.heap.objs.size x t 0 → h'.IsListIter (s.heap.objs.size + 1) l 0 → (∀ c o, s.heap.get? c = some o → h'.get? c = some o) → Q (.ref (s.heap.objs.size + 4)) { s with heap := h' }) :
   wpAny (model prog w) A (call (.type "zip") [.str x t, .ref l]) Q E s := by
 refine callType_new F.called_zip (by decide) (F.typeCall_zip_2 _ _) (F.newCall_zip_2 _ _) (fun obj => F.args_object_init_3 obj _ _) F.entry_zip_new (zs_meets x t l ys) ⟨hl, ?_⟩
 have n1 : (zs1 s.heap (siObj x t)).objs.size = s.heap.objs.size + 1 := Heap.size_push ..
 have n2 : (zs2 s.heap (siObj x t) l).objs.size = s.heap.objs.size + 2 := by rw [Heap.size_push, n1]
 have n3 : (zs3 s.heap (siObj x t) l).objs.size = s.heap.objs.size + 3 := by rw [Heap.size_push, n2]
 have n4 : (zs4 s.heap (siObj x t) l).objs.size = s.heap.objs.size + 4 := by rw [Heap.size_push, n3]
 have up : ∀ {h : Heap} {c : Addr} {u o : Obj}, h.get? c = some o → (h.push u).get? c = some o := fun e => Heap.get?_push_of_some _ e
 have r5 : (zs5 s.heap (siObj x t) l).get? (zs4 s.heap (siObj x t) l).objs.size = some _ := Heap.get?_push_size _ rfl
 have r4 : (zs5 s.heap (siObj x t) l).get? (zs3 s.heap (siObj x t) l).objs.size = some _ := up (Heap.get?_push_size _ rfl)
 have r3 : (zs5 s.heap (siObj x t) l).get? (zs2 s.heap (siObj x t) l).objs.size = some _ := up (up (Heap.get?_push_size _ rfl))
 have r2 : (zs5 s.heap (siObj x t) l).get? (zs1 s.heap (siObj x t)).objs.size = some _ := up (up (up (Heap.get?_push_size _ rfl)))
 have r1 : (zs5 s.heap (siObj x t) l).get? s.heap.objs.size = some (siObj x t) := up (up (up (up (Heap.get?_push_size _ rfl))))
 show _ ∧ _
 rw [n2, n3, n4] at r5
 rw [n1, n2] at r3
 rw [n3] at r4
 rw [n1] at r2
 rw [n4]
 exact ⟨⟨_, r5, rfl⟩, h _ r5 r3 r4 (si_new r1) ⟨_, r2, rfl, rfl⟩ fun c o q => up (up (up (up (up q))))⟩
end
def iZipS (K : PySem.W.Frag) (ta : TA) : TI := fun σ H R => ta σ H fun vs H1 => ∃ z b, vs = [.str z, .ref b] ∧ (∃ ys, SqL K H1 b ys) ∧ R (Itzs K z b) H1
theorem piK_zipS {X : Cx} {elts : List Expr} {k : Nat} {tpos : Pos} {a b : Expr} {ta : TA} {p pos : Pos} (K : PySem.W.Frag) (hK : X.K = K) (hg : Gl X "zip") (hm : X.mg "zip" = none) (ha : PA X [a, b] ta) (hs : starEach [a, b] X.env = [(false, eval a X.env), (false, eval b X.env)] := by rfl) (hs2 : starEach [b] X.env = [(false, eval b X.env)] := by rfl) :
   PI X (.Tuple elts k tpos) (.Call (.Name "zip" p) [a, b] [] pos) (iZipS K ta) := by
 subst hK
 intro pins s σ H R I h
 refine Call_ (ld_blt I hg hm (u := .type "zip") (by decide +kernel) (PyProof.Rows.callWith_type1 (thn (ha pos pins s σ H _ I h) fun us s1 ⟨vs, H1, I1, r1, q1⟩ => ?_) (by rw [hs, hs2]) (by rw [hs2]; rfl)))
 obtain ⟨z, l, e, ⟨ys, hy⟩, q⟩ := q1
 subst e
 cases r1 with
 | cons r rr =>
   cases rr with
   | cons r' rr =>
     cases rr
     obtain ⟨t, rfl⟩ := r
     cases r'
     obtain ⟨its, rv, pl, hz⟩ := I1.list hy
     have hlt : l < s1.heap.objs.size := by obtain ⟨o, ho, _⟩ := pl.isList; exact Heap.lt_size ho
     refine call_zipS pl.isList fun h' hz' hTI hTO hi1 hi2 hk => ?_
     refine wpAny_pyIter_zip hz' ?_
     have I2 : Inv X pins σ H1 { s1 with heap := h' } := I1.kept (t' := s1.toks) fun b o e => hk b o e
     refine ⟨s1.heap.objs.size + 4, _, _, _, H1, rfl, I2, turn_zipS (x := z) (t := t) (apartN s1.heap.objs.size l l hlt hlt), ⟨hz', hTI, ⟨_, _, hTO⟩, hi1, hi2⟩, fun b hb => ?_, q⟩
     have hb' : s1.heap.objs.size ≤ b := by
       simp only [List.mem_cons, List.mem_nil_iff, or_false] at hb
       rcases hb with rfl | rfl | rfl | rfl | rfl
       · exact Nat.le_add_right _ _
       · exact Nat.le_add_right _ _
       · exact Nat.le_add_right _ _
       · exact Nat.le_refl _
       · exact Nat.le_add_right _ _
     exact I1.fpOk hb' (I1.hok.fresh hb')
theorem for_zipS {K : PySem.W.Frag} {z : Str} {b : Addr} {ys : List V} {g : TG} {tb : TS} {D : Ends} {σ : St} {H : Hp} (Pv : Nat → St → Hp → Prop) (h0 : Pv 0 σ H) (hl : ∀ i σ H, i ≤ min z.cps.size ys.length → Pv i σ H → SqL K H b ys)
   (hs : ∀ i c y t σ H, z.cps[i]? = some c → ys[i]? = some y → H t = none → Pv i σ H → g (.ref t) σ (upd H t (.tup [.str (sg c), y])) fun σ2 H2 => tb { D with nx := Pv (i + 1), ct := Pv (i + 1), bk := D.nx } σ2 H2) (hd : ∀ σ H, Pv (min z.cps.size ys.length) σ H → D.nx σ H) :
   ∃ W : Nat → Nat → St → Hp → Prop, (∃ m, W 0 m σ H) ∧ ∀ i m σ H, W i m σ H →
     ((Itzs K z b).stop i H ∧ D.nx σ H) ∨ ((Itzs K z b).go i H ∧ ∃ N : St → Hp → Prop, (∀ σ' H', N σ' H' → ∃ m', m' < m ∧ W (i + 1) m' σ' H') ∧ ∀ x H', (Itzs K z b).yld i H x H' → g x σ H' fun σ2 H2 => tb { D with nx := N, ct := N, bk := D.nx } σ2 H2) := by
 refine ⟨fun i m σ H => m = min z.cps.size ys.length - i ∧ i ≤ min z.cps.size ys.length ∧ Pv i σ H, ⟨_, rfl, Nat.zero_le _, h0⟩, ?_⟩
 rintro i m σ H ⟨rfl, hi, p⟩
 have q := hl i σ H hi p
 by_cases hlt : i < min z.cps.size ys.length
 · have h1 : i < z.cps.size := by omega
   have h2 : i < ys.length := by omega
   refine .inr ⟨⟨ys, z.cps[i], ys[i], q, by simp [h1], by simp [h2]⟩, Pv (i + 1), fun σ' H' p' => ⟨_, (by omega : min z.cps.size ys.length - (i + 1) < _), rfl, hlt, p'⟩, fun v H' y => ?_⟩
   obtain ⟨t, c, y, ht, e1, e2, ec, ey⟩ := y
   subst e1 e2
   exact hs i c y t σ _ ec (ey ys q) ht p
 · have e : i = min z.cps.size ys.length := by omega
   subst e
   exact .inl ⟨⟨ys, q, rfl⟩, hd σ H p⟩
end L2

set_option Elab.async false
set_option linter.all false
set_option maxRecDepth 100000
set_option maxHeartbeats 4000000
namespace L2
open PySem PySem.Spec PyProof.Rows
section
variable {X : Cx}
theorem any_range (bs : List Bool) : ((List.range bs.length).any fun i => bs.getD i true) = bs.any id := by
 rw [Bool.eq_iff_iff, List.any_eq_true, List.any_eq_true]
 constructor
 · rintro ⟨i, hi, h⟩
   have hi' : i < bs.length := by simpa using hi
   exact ⟨bs[i], List.getElem_mem hi', by simpa [List.getD, hi'] using h⟩
 · rintro ⟨b, hb, h⟩
   obtain ⟨i, hi, rfl⟩ := List.mem_iff_getElem.mp hb
   exact ⟨i, by simpa using hi, by simpa [List.getD, hi] using h⟩
def rAny (K : PySem.W.Frag) : List V → Hp → VK → Prop := fun xs H Q => ∃ (p : Addr) (bs : List Bool), xs = [.ref p] ∧ SqL K H p (bs.map V.bl) ∧ Q (.bl (bs.any id)) H
theorem call_any (hc : X.calm = true) : CallR X (.builtin "any") (rAny X.K) := by
 intro pins s σ H xs us Q I r h
 obtain ⟨p, bs, rfl, hq, q⟩ := h
 obtain ⟨u, rfl, ru⟩ := vals1 r
 cases ru
 obtain ⟨its, rv, pl, hz⟩ := I.list hq
 have hlen := rv.length
 rw [List.length_map] at hlen
 have hpl : p < s.heap.objs.size := by obtain ⟨o, ho, _⟩ := pl.isList; exact Heap.lt_size ho
 refine call_any_walk (wpAny_pyIter_list pl.isList ⟨s.heap.objs.size, _, _, _, _, _, fun i => bs.getD i true, rfl, Walks.list (A := X.A.in1) (show X.A.in1.handled = none from I.ok.hd hc) s.heap.objs.size p (Nat.ne_of_lt hpl) its.toArray, ⟨⟨_, Heap.get?_push_size _ rfl, rfl, rfl⟩, pl.isList.at fun o e => Heap.get?_push_of_some _ e⟩, ?_, ?_⟩)
 · intro i v s' Q' E' hv hq'
   have e : its[i]? = some v := by simpa using hv
   rw [vals_bl_get rv e]
   exact wpAny_truthy_bool hq'
 · intro h' tk hk
   have f0 := I.fpOk (Nat.le_refl s.heap.objs.size) (I.hok.fresh (Nat.le_refl _))
   have I2 : Inv X pins σ H { s with heap := s.heap.push { cls := .type "list_iterator", data := .fields #[.ref p, rawInt 0] } } := I.kept (t' := s.toks) fun b o e => Heap.get?_push_of_some _ e
   have I3 := I2.turned (h' := h') (t' := tk) (it := s.heap.objs.size) (fun b o hb e => hk b o (by simpa using hb) e) f0.1 f0.2.1 f0.2.2.2.1 f0.2.2.2.2.1 f0.2.2.2.2.2
   refine ⟨.bl (bs.any id), H, I3, ?_, q⟩
   show Value.bool _ = Value.bool _
   rw [List.size_toArray, ← hlen, any_range]
theorem callK_any (K : PySem.W.Frag) (h : X.K = K) (hc : X.calm = true) : CallR X (.builtin "any") (rAny K) := by subst h; exact call_any hc
end
end L2

set_option Elab.async false
set_option linter.all false
set_option maxRecDepth 100000
set_option maxHeartbeats 4000000
namespace L2
open PySem PySem.Spec PyProof.Rows
inductive CmpD (K : PySem.W.Frag) (H : Hp) : Nat → V → V → Bool → Prop where
 | flat {n : Nat} {x y : V} : flatV x = true → flatV y = true → CmpD K H n x y (eqV x y)
 | same {n : Nat} {a : Addr} : CmpD K H n (.ref a) (.ref a) true
 | tup {n : Nat} {a b : Addr} {xs ys : List V} {e : Nat → Bool} : a ≠ b → SqT K H a xs → SqT K H b ys → (∀ (j : Nat) x y, xs[j]? = some x → ys[j]? = some y → CmpD K H n x y (e j)) → CmpD K H (n + 1) (.ref a) (.ref b) ((List.range (min xs.length ys.length)).all e && xs.length == ys.length)
 | lst {n : Nat} {a b : Addr} {xs ys : List V} {e : Nat → Bool} : a ≠ b → SqL K H a xs → SqL K H b ys → xs.length = ys.length → (∀ (j : Nat) x y, xs[j]? = some x → ys[j]? = some y → CmpD K H n x y (e j)) → CmpD K H (n + 1) (.ref a) (.ref b) ((List.range xs.length).all e)
 | len {n : Nat} {a b : Addr} {xs ys : List V} : a ≠ b → SqL K H a xs → SqL K H b ys → xs.length ≠ ys.length → CmpD K H (n + 1) (.ref a) (.ref b) false
section
variable {X : Cx} {pins : List (Addr × Obj)} {σ : St} {H : Hp} {s : Shared}
theorem items_cmp {A : Around} {e : Nat → Bool} {xs ys : List V} {us ws : List Value} (r1 : Vals xs us) (r2 : Vals ys ws) (h : ∀ (j : Nat) x y u w, xs[j]? = some x → ys[j]? = some y → RelV x u → RelV y w → SeqAt.EqAt A s u w (e j)) (j : Nat) (h1 : j < us.toArray.size) (h2 : j < ws.toArray.size) :
   SeqAt.EqAt A s us.toArray[j] ws.toArray[j] (e j) := by
 have hl1 := r1.length
 have hl2 := r2.length
 have hj1 : j < xs.length := by rw [hl1]; simpa using h1
 have hj2 : j < ys.length := by rw [hl2]; simpa using h2
 obtain ⟨u, eu, ru⟩ := r1.get (i := j) (x := xs[j]) (by simp [hj1])
 obtain ⟨w, ew, rw'⟩ := r2.get (i := j) (x := ys[j]) (by simp [hj2])
 have e1 : us.toArray[j] = u := by
   obtain ⟨_, q⟩ := List.getElem?_eq_some_iff.mp eu
   simpa using q
 have e2 : ws.toArray[j] = w := by
   obtain ⟨_, q⟩ := List.getElem?_eq_some_iff.mp ew
   simpa using q
 rw [e1, e2]
 exact h j _ _ u w (by simp [hj1]) (by simp [hj2]) ru rw'
theorem eqAt_cmp (I : Inv X pins σ H s) {n : Nat} {x y : V} {b : Bool} (h : CmpD X.K H n x y b) : ∀ {A : Around} {u v : Value}, A.units + n < cLine → RelV x u → RelV y v → SeqAt.EqAt A s u v b := by
 induction h with
 | flat f1 f2 => intro A u v _ ru rv; exact eqAt_V ru rv f1 f2
 | same => intro A u v _ ru rv; cases ru; cases rv; exact SeqAt.EqAt.same _
 | @tup n a b xs ys e ne ha hb _ ih =>
   intro A u v hu ru rv
   cases ru; cases rv
   obtain ⟨its, r1, p1, _⟩ := I.tuple ha
   obtain ⟨its2, r2, p2, _⟩ := I.tuple hb
   refine SeqAt.EqAt.of_refs ne ?_
   have q := SeqAt.RcAt.tuples (A := A) (e := e) p1 p2 (by omega) fun j h1 h2 => items_cmp r1 r2 (fun j x y u w ex ey ru rw' => ih j x y ex ey (by show A.units + 1 + n < cLine; omega) ru rw') j h1 h2
   rw [List.size_toArray, List.size_toArray, ← r1.length, ← r2.length] at q
   exact q
 | @lst n a b xs ys e ne ha hb hl _ ih =>
   intro A u v hu ru rv
   cases ru; cases rv
   obtain ⟨its, r1, p1, _⟩ := I.list ha
   obtain ⟨its2, r2, p2, _⟩ := I.list hb
   refine SeqAt.EqAt.of_refs ne ?_
   have q := SeqAt.RcAt.lists (A := A) (e := e) p1.isList p2.isList (by rw [List.size_toArray, List.size_toArray, ← r1.length, ← r2.length, hl]) (by omega) fun j h1 h2 => items_cmp r1 r2 (fun j x y u w ex ey ru rw' => ih j x y ex ey (by show A.units + 1 + n < cLine; omega) ru rw') j h1 h2
   rw [List.size_toArray, ← r1.length] at q
   exact q
 | @len n a b xs ys ne ha hb hl =>
   intro A u v hu ru rv
   cases ru; cases rv
   obtain ⟨its, r1, p1, _⟩ := I.list ha
   obtain ⟨its2, r2, p2, _⟩ := I.list hb
   refine SeqAt.EqAt.of_refs ne ?_
   exact SeqAt.RcAt.lists_lengths (A := A) p1.isList p2.isList (by rw [List.size_toArray, List.size_toArray, ← r1.length, ← r2.length]; simpa using hl) (by omega)
end
section
variable {X : Cx}
inductive TopC (K : PySem.W.Frag) (H : Hp) : V → V → Bool → Prop where
 | tup {n : Nat} {a b : Addr} {xs ys : List V} {e : Nat → Bool} : n ≤ 50 → SqT K H a xs → SqT K H b ys → (∀ (j : Nat) x y, xs[j]? = some x → ys[j]? = some y → CmpD K H n x y (e j)) → TopC K H (.ref a) (.ref b) ((List.range (min xs.length ys.length)).all e && xs.length == ys.length)
 | lst {n : Nat} {a b : Addr} {xs ys : List V} {e : Nat → Bool} : n ≤ 50 → SqL K H a xs → SqL K H b ys → xs.length = ys.length → (∀ (j : Nat) x y, xs[j]? = some x → ys[j]? = some y → CmpD K H n x y (e j)) → TopC K H (.ref a) (.ref b) ((List.range xs.length).all e)
 | len {a b : Addr} {xs ys : List V} : SqL K H a xs → SqL K H b ys → xs.length ≠ ys.length → TopC K H (.ref a) (.ref b) false
def rEqC (K : PySem.W.Frag) : R2 := fun x y H Q => ∃ b, TopC K H x y b ∧ Q (.bl b) H
def rNeC (K : PySem.W.Frag) : R2 := fun x y H Q => ∃ b, TopC K H x y b ∧ Q (.bl (!b)) H
theorem op_eqC (K : PySem.W.Frag) (hK : X.K = K) (hu : X.A.units + 64 < cLine) : OpR X (compareOp .Eq) (rEqC K) := by
 subst hK
 intro pins s σ H x y v u Q I rx ry h
 obtain ⟨b, hk, q⟩ := h
 cases hk with
 | @tup n a b xs ys e hn ha hb hs =>
   cases rx; cases ry
   obtain ⟨its, r1, p1, _⟩ := I.tuple ha
   obtain ⟨its2, r2, p2, _⟩ := I.tuple hb
   refine SeqAt.eq_tupleAt (e := e) p1 p2 (by omega) (fun j h1 h2 => items_cmp r1 r2 (fun j x y u w ex ey ru rw' => eqAt_cmp I (hs j x y ex ey) (by show X.A.units + 1 + n < cLine; omega) ru rw') j h1 h2) ⟨.bl _, H, I, ?_, q⟩
   show Value.bool _ = Value.bool _
   rw [List.size_toArray, List.size_toArray, ← r1.length, ← r2.length]
 | @lst n a b xs ys e hn ha hb hl hs =>
   cases rx; cases ry
   obtain ⟨its, r1, p1, _⟩ := I.list ha
   obtain ⟨its2, r2, p2, _⟩ := I.list hb
   refine SeqAt.eq_listAt (e := e) p1.isList p2.isList (by rw [List.size_toArray, List.size_toArray, ← r1.length, ← r2.length, hl]) (by omega) (fun j h1 h2 => items_cmp r1 r2 (fun j x y u w ex ey ru rw' => eqAt_cmp I (hs j x y ex ey) (by show X.A.units + 1 + n < cLine; omega) ru rw') j h1 h2) ⟨.bl _, H, I, ?_, q⟩
   show Value.bool _ = Value.bool _
   rw [List.size_toArray, ← r1.length]
 | @len a b xs ys ha hb hl =>
   cases rx; cases ry
   obtain ⟨its, r1, p1, _⟩ := I.list ha
   obtain ⟨its2, r2, p2, _⟩ := I.list hb
   show wpAny _ _ (richCompare .Eq (.ref a) (.ref b)) _ _ _
   exact SeqAt.RcAt.lists_lengths p1.isList p2.isList (by rw [List.size_toArray, List.size_toArray, ← r1.length, ← r2.length]; simpa using hl) (by omega) _ _ _ _ ⟨.bl false, H, I, rfl, q⟩
theorem op_neC (K : PySem.W.Frag) (hK : X.K = K) (hu : X.A.units + 64 < cLine) : OpR X (compareOp .NotEq) (rNeC K) := by
 subst hK
 intro pins s σ H x y v u Q I rx ry h
 obtain ⟨b, hk, q⟩ := h
 cases hk with
 | @tup n a b xs ys e hn ha hb hs =>
   cases rx; cases ry
   show wpAny _ _ (richCompare .NotEq (.ref a) (.ref b)) _ _ _
   obtain ⟨its, r1, p1, _⟩ := I.tuple ha
   obtain ⟨its2, r2, p2, _⟩ := I.tuple hb
   refine SeqAt.RcNeAt.tuples (e := e) p1 p2 (by omega) (fun j h1 h2 => items_cmp r1 r2 (fun j x y u w ex ey ru rw' => eqAt_cmp I (hs j x y ex ey) (by show X.A.units + 1 + n < cLine; omega) ru rw') j h1 h2) _ _ _ _ ⟨.bl _, H, I, ?_, q⟩
   show Value.bool _ = Value.bool _
   rw [List.size_toArray, List.size_toArray, ← r1.length, ← r2.length]
 | @lst n a b xs ys e hn ha hb hl hs =>
   cases rx; cases ry
   show wpAny _ _ (richCompare .NotEq (.ref a) (.ref b)) _ _ _
   obtain ⟨its, r1, p1, _⟩ := I.list ha
   obtain ⟨its2, r2, p2, _⟩ := I.list hb
   refine SeqAt.RcNeAt.lists (e := e) p1.isList p2.isList (by rw [List.size_toArray, List.size_toArray, ← r1.length, ← r2.length, hl]) (by omega) (fun j h1 h2 => items_cmp r1 r2 (fun j x y u w ex ey ru rw' => eqAt_cmp I (hs j x y ex ey) (by show X.A.units + 1 + n < cLine; omega) ru rw') j h1 h2) _ _ _ _ ⟨.bl _, H, I, ?_, q⟩
   show Value.bool _ = Value.bool _
   rw [List.size_toArray, ← r1.length]
 | @len a b xs ys ha hb hl =>
   cases rx; cases ry
   obtain ⟨its, r1, p1, _⟩ := I.list ha
   obtain ⟨its2, r2, p2, _⟩ := I.list hb
   show wpAny _ _ (richCompare .NotEq (.ref a) (.ref b)) _ _ _
   exact SeqAt.RcNeAt.lists_lengths p1.isList p2.isList (by rw [List.size_toArray, List.size_toArray, ← r1.length, ← r2.length]; simpa using hl) (by omega) _ _ _ _ ⟨.bl true, H, I, rfl, q⟩
end
end L2

set_option Elab.async false
set_option linter.all false
set_option maxRecDepth 100000
set_option maxHeartbeats 4000000
namespace L2
open PySem PySem.Spec PyProof.Rows
structure VKd (prog : Program) (w : World) (K : Type) [DecidableEq K] where
 is : Heap → K → Value → Prop
 hash : K → Int
 draws : K → Nat
 lev : Nat
 inj : ∀ {h : Heap} {v : Value} {x y : K}, is h x v → is h y v → x = y
 keeps : ∀ {h h' : Heap} {k : K} {v : Value} {d : Addr} {o : Obj} {es ep}, is h k v → h.get? d = some o → o.data = .dict es ep → Heap.SameBut d h h' → is h' k v
 pyHash : ∀ {A : Around} {E : Value → Shared → Prop} {s : Shared} {k : K} {v : Value} {Q : Int → Shared → Prop}, A.units + lev < cLine → is s.heap k v → Q (hash k) { s with toks := s.toks + draws k } → wpAny (model prog w) A (PySem.pyHash v) Q E s
 eq : ∀ {A : Around} {s : Shared} {x y : K} {u v : Value}, A.units + lev < cLine → is s.heap x u → is s.heap y v → SeqAt.EqAt A s u v (decide (x = y))
 quiet : ∀ {A : Around} {E : Value → Shared → Prop} {s : Shared} {k : K} {v : Value} {Q : Bool → Shared → Prop} {n : Nat}, lev ≤ n → is s.heap k v → Q true s → wpAny (model prog w) A (eqIsQuiet n v) Q E s
section
variable {prog : Program} {w : World} {K : Type} [DecidableEq K] (V : VKd prog w K)
def TupIs (h : Heap) (ks : List K) (a : Addr) : Prop := ∃ o items n, h.get? a = some o ∧ o.cls = .type "tuple" ∧ o.data = .seq items n ∧ Paired (fun k v => V.is h k v) ks items.toList
def tupHash (ks : List K) : Int := reduceHash (Builtin.Tuple.tupleHashOf (ks.map V.hash))
variable {V}
theorem TupIs.ty {s : Shared} {ks : List K} {a : Addr} (x : TupIs V s.heap ks a) : s.TypeIs (.ref a) "tuple" := by obtain ⟨o, _, _, ho, hc, _⟩ := x; exact ⟨o, ho, hc⟩
theorem paired_inj {h : Heap} : ∀ {x y : List K} {vs : List Value}, Paired (fun k v => V.is h k v) x vs → Paired (fun k v => V.is h k v) y vs → x = y
 | _, _, _, .nil, .nil => rfl
 | _, _, _, .cons a r, .cons b q => by rw [V.inj a b, paired_inj r q]
theorem TupIs.inj {h : Heap} {a : Addr} {x y : List K} (hx : TupIs V h x a) (hy : TupIs V h y a) : x = y := by
 obtain ⟨o, items, n, ho, _, hd, hi⟩ := hx
 obtain ⟨o', items', n', ho', _, hd', hi'⟩ := hy
 rw [ho] at ho'
 cases ho'
 rw [hd] at hd'
 cases hd'
 exact paired_inj hi hi'
theorem TupIs.keeps {h h' : Heap} {ks : List K} {a d : Addr} {o : Obj} {es ep} (x : TupIs V h ks a) (ho : h.get? d = some o) (hd : o.data = .dict es ep) (hs : Heap.SameBut d h h') : TupIs V h' ks a := by
 obtain ⟨o', items, n, e1, e2, e3, e4⟩ := x
 have hne : a ≠ d := fun e => by
   subst e
   rw [e1] at ho
   cases ho
   rw [hd] at e3; cases e3
 exact ⟨o', items, n, (hs.2 a hne).trans e1, e2, e3, Paired.mapP e4 fun k v q => V.keeps q ho hd hs⟩
variable {A : Around} {E : Value → Shared → Prop} {s : Shared}
theorem tup_hash {ks : List K} {a : Addr} {Q : Int → Shared → Prop} (hu : A.units + (V.lev + 1) < cLine) (hk : TupIs V s.heap ks a) (h : Q (tupHash V ks) { s with toks := s.toks + ((ks.map V.draws).sum + 1) }) :
   wpAny (model prog w) A (pyHash (.ref a)) Q E s := by
 have hT := hk.ty
 have hu0 : A.units < cLine := by omega
 obtain ⟨o, items, n, ho, _, hd, hi⟩ := hk
 unfold pyHash
 first | unfold pyHashByItsType | skip
 first | refine wpAny_bind (wpAny_cRoomFor_or (.inr hu0) ?_) | skip
 refine wpAny_bind (wpAny_specialOf hT F.slot_tuple_hash.lookup ?_); show wpAny _ _ (if (some (Value.builtin "tuple.__hash__") == some Value.none) = true then _ else _) Q E s
 rw [if_neg (by rw [beq_builtin_none]; exact Bool.false_ne_true)]; refine wpAny_bind (wpAny_specialOf hT F.slot_tuple_hash.lookup ?_)
 show wpAny _ _ (callSpecialIfBoundUnlessNone? (.ref a) "__hash__" _ >>= _) Q E s; refine wpAny_bind (wpAny_callSpecialIfBoundUnlessNone?_slot hT F.slot_tuple_hash (wpAny_call_entry F.slot_tuple_hash hT F.entry_tuple_hash ?_ (F.args_tuple_hash_1 _)))
 have hu1 : A.in1.units + V.lev < cLine := by show A.units + 1 + V.lev < cLine; omega
 show wpAny _ _ (Builtin.Tuple.tupleItemsOf (.ref a) >>= _) _ _ s
 refine wpAny_bind (wpAny_tupleItemsOf ho hd (wpAny_bind ?_))
 rw [← Array.forIn_toList]
 refine wpAny_forIn_list _ (fun rest (b : Array Int) s' => ∃ done left, ks = done ++ left ∧ Paired (fun k v => V.is s.heap k v) left rest ∧ b.toList = done.map V.hash ∧ s' = { s with toks := s.toks + (done.map V.draws).sum }) _ ?_ ?_ _ _ ⟨[], ks, rfl, hi, rfl, rfl⟩
 · rintro x rest b s' ⟨done, left, rfl, hl, hb, rfl⟩
   cases hl with
   | @cons k _ ks' _ h1 hl' =>
     have fin : ∃ d l, done ++ k :: ks' = d ++ l ∧ Paired (fun k v => V.is s.heap k v) l rest ∧ (b.push (V.hash k)).toList = d.map V.hash ∧ ({ s with toks := s.toks + (done.map V.draws).sum + V.draws k } : Shared) = { s with toks := s.toks + (d.map V.draws).sum } := ⟨done ++ [k], ks', by simp, hl', by simp [hb], by simp [Nat.add_assoc]⟩
     refine wpAny_bind (V.pyHash hu1 h1 ?_)
     first
       | exact wpAny_pure fin
       | exact wpAny_bind (wpAny_pure (wpAny_pure fin))
 · rintro b s' ⟨done, left, rfl, hl, hb, rfl⟩
   cases hl
   rw [List.append_nil] at h
   show wpAny _ _ (retInt (Builtin.Tuple.tupleHashOf b.toList)) _ _ _
   rw [hb]
   refine wpAny_ret_mkInt ?_
   generalize hz : Builtin.Tuple.tupleHashOf (done.map V.hash) = z
   unfold tupHash reduceHash at h
   rw [hz] at h
   show wpAny _ _ (if (decide (-(2 : Int) ^ 63 ≤ z) && decide (z < 2 ^ 63)) = true then _ else _) Q E _
   by_cases hr : (decide (-(2 : Int) ^ 63 ≤ z) && decide (z < 2 ^ 63)) = true
   · rw [if_pos hr] at h ⊢
     exact wpAny_pure (by simpa [Nat.add_assoc] using h)
   · rw [if_neg hr] at h ⊢
     exact wpAny_bind (wpAny_rule (wpAny_pure (by simpa [Nat.add_assoc] using h)))
theorem all_eq_dec {x y : List K} : ((List.range (min x.length y.length)).all (fun j => decide (x[j]? = y[j]?)) && x.length == y.length) = decide (x = y) := by
 rw [Bool.eq_iff_iff, Bool.and_eq_true, List.all_eq_true, decide_eq_true_iff, beq_iff_eq]
 constructor
 · rintro ⟨q, hl⟩
   refine List.ext_getElem? fun i => ?_
   by_cases hi : i < x.length
   · exact of_decide_eq_true (q i (List.mem_range.mpr (by omega)))
   · rw [List.getElem?_eq_none (by omega), List.getElem?_eq_none (by omega)]
 · rintro rfl
   exact ⟨fun i _ => decide_eq_true rfl, rfl⟩
theorem paired_at' {F : K → Value → Prop} : ∀ {ks : List K} {vs : List Value}, Paired F ks vs → ∀ (j : Nat) v, vs[j]? = some v → ∃ k, ks[j]? = some k ∧ F k v
 | _, _, .nil, j, v, h => by simp at h
 | _, _, .cons a r, 0, v, h => by cases h; exact ⟨_, rfl, a⟩
 | _, _, .cons a r, j + 1, v, h => by
   rw [List.getElem?_cons_succ] at h
   obtain ⟨k, e, q⟩ := paired_at' r j v h
   exact ⟨k, by rw [List.getElem?_cons_succ]; exact e, q⟩
theorem tup_eq {x y : List K} {a b : Addr} (hu : A.units + (V.lev + 1) < cLine) (hx : TupIs V s.heap x a) (hy : TupIs V s.heap y b) : SeqAt.EqAt A s (.ref a) (.ref b) (decide (x = y)) := by
 by_cases e : a = b
 · subst e
   rw [decide_eq_true (hx.inj hy)]
   exact SeqAt.EqAt.same _
 · obtain ⟨o, items, n, h1, h2, h3, h4⟩ := hx
   obtain ⟨o', items', n', h1', h2', h3', h4'⟩ := hy
   have l1 : x.length = items.size := by rw [Paired.length h4, Array.length_toList]
   have l2 : y.length = items'.size := by rw [Paired.length h4', Array.length_toList]
   refine SeqAt.EqAt.of_refs e ?_
   rw [← all_eq_dec, l1, l2]
   refine SeqAt.RcAt.tuples ⟨o, h1, h2, n, h3⟩ ⟨o', h1', h2', n', h3'⟩ (by omega) fun j j1 j2 => ?_
   obtain ⟨k, ek, hk⟩ := paired_at' h4 j items[j] (by simp [j1])
   obtain ⟨k', ek', hk'⟩ := paired_at' h4' j items'[j] (by simp [j2])
   rw [ek, ek', show decide (some k = some k') = decide (k = k') by simp]
   exact V.eq (by show A.units + 1 + V.lev < cLine; omega) hk hk'
theorem tup_quiet {ks : List K} {a : Addr} {Q : Bool → Shared → Prop} {n : Nat} (hn : V.lev + 1 ≤ n) (hk : TupIs V s.heap ks a) (h : Q true s) : wpAny (model prog w) A (eqIsQuiet n (.ref a)) Q E s := by
 have hT := hk.ty
 obtain ⟨o, items, m, ho, _, hd, hi⟩ := hk
 obtain ⟨n, rfl⟩ : ∃ n', n = n' + 1 := ⟨n - 1, by omega⟩
 unfold eqIsQuiet
 refine wpAny_bind (wpAny_specialOf hT F.slot_tuple_eq.lookup ?_); show wpAny _ _ (isInstance (.ref a) (.type "tuple") >>= _) _ _ s
 refine wpAny_bind (wpAny_isInstance hT isSubtype_tuple_tuple ?_)
 simp only [Bool.not_true, Bool.false_eq_true, if_false]
 refine wpAny_bind (wpAny_seqItems ho hd (wpAny_bind ?_))
 show wpAny _ _ (forIn items _ _) _ _ s
 rw [← Array.forIn_toList]
 refine wpAny_forIn_list _ (fun rest r s' => r.1 = none ∧ s' = s ∧ ∃ l, Paired (fun k v => V.is s.heap k v) l rest) _ ?_ ?_ _ _ ⟨rfl, rfl, ks, hi⟩
 · rintro v rest r s' ⟨hr, rfl, l, hl⟩
   cases hl with
   | @cons k _ ks' _ h1 hl' =>
     refine wpAny_bind (V.quiet (by omega) h1 ?_)
     simp only [Bool.not_true, Bool.false_eq_true, if_false]
     exact wpAny_pure ⟨rfl, rfl, ks', hl'⟩
 · rintro ⟨r1, r2⟩ s' ⟨hr, rfl, _⟩
   simp only at hr
   subst hr
   exact wpAny_pure h
end
abbrev Lf := Option Key
def lfIs : Lf → Value → Prop
 | none, v => v = .none
 | some k, v => keyIs k v = true
section
variable {prog : Program} {w : World} {A : Around} {E : Value → Shared → Prop} {s : Shared}
theorem none_hash {Q : Int → Shared → Prop} (hu : A.units < cLine) (h : Q 4238894112 { s with toks := s.toks + 1 }) : wpAny (model prog w) A (pyHash .none) Q E s := by
 have hT : s.TypeIs .none "NoneType" := rfl
 unfold pyHash
 first | unfold pyHashByItsType | skip
 first | refine wpAny_bind (wpAny_cRoomFor_or (.inr hu) ?_) | skip
 refine wpAny_bind (wpAny_specialOf hT F.slot_NoneType_hash.lookup ?_)
 show wpAny _ _ (if (some (Value.builtin "NoneType.__hash__") == some Value.none) = true then _ else _) Q E s
 rw [if_neg (by rw [beq_builtin_none]; exact Bool.false_ne_true)]; refine wpAny_bind (wpAny_specialOf hT F.slot_NoneType_hash.lookup ?_)
 show wpAny _ _ (callSpecialIfBoundUnlessNone? .none "__hash__" _ >>= _) Q E s
 refine wpAny_bind (wpAny_callSpecialIfBoundUnlessNone?_slot hT F.slot_NoneType_hash (wpAny_call_entry F.slot_NoneType_hash hT F.entry_NoneType_hash ?_ (F.args_NoneType_hash_1 _)))
 show wpAny _ _ (retInt 4238894112) _ _ _
 refine wpAny_ret_mkInt ?_
 show wpAny _ _ (if (decide (-(2 : Int) ^ 63 ≤ 4238894112) && decide ((4238894112 : Int) < 2 ^ 63)) = true then _ else _) Q E _
 rw [if_pos (by decide)]
 exact wpAny_pure h
theorem lf_key {k : Key} {v : Value} (h : keyIs k v = true) : (∃ i t, k = .inl i ∧ v = .int i t) ∨ ∃ z t, k = .inr z ∧ v = .str z t := keyIs_shape h
theorem lf_inj (prog : Program) (w : World) {v : Value} {x y : Lf} (hx : lfIs x v) (hy : lfIs y v) : x = y := by
 cases x with
 | none =>
   cases y with
   | none => rfl
   | some k => rcases lf_key hy with ⟨i, t, rfl, e⟩ | ⟨z, t, rfl, e⟩ <;> (rw [show v = .none from hx] at e; cases e)
 | some k =>
   cases y with
   | none => rcases lf_key hx with ⟨i, t, rfl, e⟩ | ⟨z, t, rfl, e⟩ <;> (rw [show v = .none from hy] at e; cases e)
   | some k' => rw [(mixKind prog w).inj v k k' hx hy]
theorem lf_eq {x y : Lf} {u v : Value} (hx : lfIs x u) (hy : lfIs y v) : SeqAt.EqAt A s u v (decide (x = y)) := by
 cases x with
 | none =>
   have hx : u = .none := hx
   subst hx
   cases y with
   | none =>
     have hy : v = .none := hy
     subst hy
     rw [decide_eq_true rfl]; exact SeqAt.EqAt.same _
   | some k =>
     rw [decide_eq_false (by simp)]
     rcases lf_key hy with ⟨i, t, rfl, rfl⟩ | ⟨z, t, rfl, rfl⟩
     · exact SeqAt.EqAt.none_int _ _
     · exact SeqAt.EqAt.none_str _ _
 | some k =>
   cases y with
   | none =>
     have hy : v = .none := hy
     subst hy
     rw [decide_eq_false (by simp)]
     rcases lf_key hx with ⟨i, t, rfl, rfl⟩ | ⟨z, t, rfl, rfl⟩
     · exact SeqAt.EqAt.int_none _ _
     · exact SeqAt.EqAt.str_none _ _
   | some k' =>
     rw [show decide (some k = some k') = decide (k = k') by simp]
     rcases lf_key hx with ⟨i, t, rfl, rfl⟩ | ⟨z, t, rfl, rfl⟩ <;> rcases lf_key hy with ⟨i', t', rfl, rfl⟩ | ⟨z', t', rfl, rfl⟩
     · rw [key_ll]; exact SeqAt.EqAt.int_int _ _ _ _
     · rw [key_lr]; exact SeqAt.EqAt.int_str _ _ _ _
     · rw [key_rl]; exact SeqAt.EqAt.str_int _ _ _ _
     · rw [key_rr, show decide (z = z') = (z == z') by rw [Bool.eq_iff_iff, decide_eq_true_iff, beq_iff_eq]]; exact SeqAt.EqAt.str_str _ _ _ _
theorem lf_byValue {x : Lf} {v : Value} (h : lfIs x v) : carriedByValue v = true := by
 cases x with
 | none => rw [show v = .none from h]; rfl
 | some k => rcases lf_key h with ⟨i, t, rfl, rfl⟩ | ⟨z, t, rfl, rfl⟩ <;> rfl
end
def lfHash (w : World) : Lf → Int
 | none => 4238894112
 | some k => keyH w k
def leafK (prog : Program) (w : World) : VKd prog w Lf where
 is := fun _ k v => lfIs k v
 hash := lfHash w
 draws := fun _ => 1
 lev := 0
 inj := fun hx hy => lf_inj prog w hx hy
 keeps := fun h _ _ _ => h
 pyHash := fun {A E s k v Q} hu h q => by
   cases k with
   | none =>
     have h : v = .none := h
     subst h
     exact none_hash hu q
   | some k => exact (mixKind prog w).pyHash h q
 eq := fun _ hx hy => lf_eq hx hy
 quiet := fun {A E s k v Q n} _ h q => by rw [eqIsQuiet_byValue n (lf_byValue h)]; exact wpAny_pure q
section
variable {prog : Program} {w : World} {K : Type} [DecidableEq K] (V : VKd prog w K)
def stIs (h : Heap) : Lf ⊕ List K → Value → Prop
 | .inl k, v => lfIs k v
 | .inr ks, v => ∃ a, v = .ref a ∧ TupIs V h ks a
def stHash : Lf ⊕ List K → Int
 | .inl k => lfHash w k
 | .inr ks => tupHash V ks
def stDraws : Lf ⊕ List K → Nat
 | .inl _ => 1
 | .inr ks => (ks.map V.draws).sum + 1
variable {V}
theorem lf_ref {k : Lf} {a : Addr} (h : lfIs k (.ref a)) : False := by
 cases k with
 | none => cases (show Value.ref a = .none from h)
 | some k => rcases lf_key h with ⟨i, t, rfl, e⟩ | ⟨z, t, rfl, e⟩ <;> cases e
theorem st_eq {A : Around} {s : Shared} {x y : Lf ⊕ List K} {u v : Value} (hu : A.units + (V.lev + 1) < cLine) (hx : stIs V s.heap x u) (hy : stIs V s.heap y v) : SeqAt.EqAt A s u v (decide (x = y)) := by
 cases x with
 | inl k =>
   cases y with
   | inl k' =>
     rw [show decide ((Sum.inl k : Lf ⊕ List K) = .inl k') = decide (k = k') by simp]
     exact lf_eq hx hy
   | inr ks =>
     obtain ⟨a, rfl, o, items, n, h1, h2, h3, h4⟩ := hy
     rw [decide_eq_false (fun q => nomatch q)]
     cases k with
     | none =>
       have hx : u = .none := hx
       subst hx
       exact SeqAt.EqAt.none_tuple ⟨o, h1, h2, n, h3⟩ (by omega)
     | some k =>
       rcases lf_key hx with ⟨i, t, rfl, rfl⟩ | ⟨z, t, rfl, rfl⟩
       · exact SeqAt.EqAt.int_tuple _ _ ⟨o, h1, h2, n, h3⟩ (by omega)
       · exact SeqAt.EqAt.str_tuple _ _ ⟨o, h1, h2, n, h3⟩ (by omega)
 | inr ks =>
   obtain ⟨a, rfl, hxa⟩ := hx
   cases y with
   | inl k' =>
     obtain ⟨o, items, n, h1, h2, h3, h4⟩ := hxa
     rw [decide_eq_false (fun q => nomatch q)]
     cases k' with
     | none =>
       have hy : v = .none := hy
       subst hy
       exact SeqAt.EqAt.tuple_none ⟨o, h1, h2, n, h3⟩ (by omega)
     | some k =>
       rcases lf_key hy with ⟨i, t, rfl, rfl⟩ | ⟨z, t, rfl, rfl⟩
       · exact SeqAt.EqAt.tuple_int _ _ ⟨o, h1, h2, n, h3⟩ (by omega)
       · exact SeqAt.EqAt.tuple_str _ _ ⟨o, h1, h2, n, h3⟩ (by omega)
   | inr ks' =>
     obtain ⟨b, rfl, hyb⟩ := hy
     rw [show decide ((Sum.inr ks : Lf ⊕ List K) = .inr ks') = decide (ks = ks') by simp]
     exact tup_eq hu hxa hyb
def stepK (V : VKd prog w K) : VKd prog w (Lf ⊕ List K) where
 is := stIs V
 hash := stHash V
 draws := stDraws V
 lev := V.lev + 1
 inj := fun {h v x y} hx hy => by
   cases x with
   | inl k =>
     cases y with
     | inl k' => rw [lf_inj prog w hx hy]
     | inr ks => obtain ⟨a, rfl, _⟩ := hy; exact (lf_ref hx).elim
   | inr ks =>
     obtain ⟨a, rfl, hxa⟩ := hx
     cases y with
     | inl k' => exact (lf_ref hy).elim
     | inr ks' => obtain ⟨b, e, hyb⟩ := hy; cases e; rw [hxa.inj hyb]
 keeps := fun {h h' k v d o es ep} hx ho hd hs => by
   cases k with
   | inl k => exact hx
   | inr ks => obtain ⟨a, rfl, hxa⟩ := hx; exact ⟨a, rfl, hxa.keeps ho hd hs⟩
 pyHash := fun {A E s k v Q} hu hx q => by
   cases k with
   | inl k => exact (leafK prog w).pyHash (by show A.units + 0 < cLine; omega) hx q
   | inr ks => obtain ⟨a, rfl, hxa⟩ := hx; exact tup_hash hu hxa q
 eq := fun hu hx hy => st_eq hu hx hy
 quiet := fun {A E s k v Q n} hn hx q => by
   cases k with
   | inl k => exact (leafK prog w).quiet (Nat.zero_le _) hx q
   | inr ks => obtain ⟨a, rfl, hxa⟩ := hx; exact tup_quiet hn hxa q
end
end L2

set_option Elab.async false
set_option linter.all false
set_option maxRecDepth 100000
set_option maxHeartbeats 4000000
namespace L2
open PySem PySem.Spec PyProof.Rows


section
variable {κ : Type} [DecidableEq κ]
def dropK (kvs : List (κ × V)) (k : κ) : List (κ × V) := kvs.filter fun kv => decide (kv.1 ≠ k)

theorem RelO.getD {o : Option V} {u : Option Value} {d : V} {d' : Value} (r : RelO o u) (rd : RelV d d') : RelV (o.getD d) (u.getD d') := by
 cases o with
 | none => cases u with
   | none => exact rd
   | some _ => exact (show False from r).elim
 | some _ => cases u with
   | none => exact (show False from r).elim
   | some _ => exact r


theorem KV.any {kvs : List (κ × V)} {vs : List (κ × Value)} (r : KV kvs vs) (k : κ) : (kvs.any fun kv => decide (kv.1 = k)) = vs.any fun kv => decide (kv.1 = k) := by
 unfold KV at r
 induction r with
 | nil => rfl
 | cons h t ih => rw [List.any_cons, List.any_cons, ih, h.1]
theorem KV.drop {kvs : List (κ × V)} {vs : List (κ × Value)} (r : KV kvs vs) (k : κ) : KV (dropK kvs k) (without vs k) := by
 unfold KV at r ⊢
 unfold dropK without
 induction r with
 | nil => exact .nil
 | @cons p q ps qs h t ih =>
   obtain ⟨h1, h2⟩ := h
   rw [List.filter_cons, List.filter_cons]
   by_cases e : p.1 = k
   · have a : ¬ decide (p.1 ≠ k) = true := by simp [e]
     have b : ¬ decide (q.1 ≠ k) = true := by simp [h1.symm.trans e]
     rw [if_neg a, if_neg b]; exact ih
   · have e' : ¬ q.1 = k := fun z => e (h1.trans z)
     have a : decide (p.1 ≠ k) = true := by simp [e]
     have b : decide (q.1 ≠ k) = true := by simp [e']
     rw [if_pos a, if_pos b]; exact .cons ⟨h1, h2⟩ ih
theorem KV.length {kvs : List (κ × V)} {vs : List (κ × Value)} (r : KV kvs vs) : kvs.length = vs.length := Paired.length r
end



theorem kV_is {P : Program} {w : World} {k : Key} {u : Value} (r : RelV (kV k) u) : (mixKind P w).is k u = true := by
 cases k with
 | inl i => obtain ⟨t, e⟩ := (show ∃ t, u = Value.int i t from r); subst e; exact mixKind_int P w i t
 | inr x => obtain ⟨t, e⟩ := (show ∃ t, u = Value.str x t from r); subst e; exact mixKind_str P w x t
section
variable {P : Program} {w : World} {H : Hp} {h : Heap} {a : Addr}
end


section
variable {X : Cx} {pins : List (Addr × Obj)} {σ : St} {H : Hp} {s : Shared} {a : Addr} {y v : V} {u r : Value} {o : Option V} {A : Around} {E : Value → Shared → Prop}

end

section
variable {X : Cx} {pins : List (Addr × Obj)} {σ : St} {H : Hp} {s : Shared} {a : Addr} {kvs : List (Key × V)} {k : Key} {u : Value} {A : Around} {E : Value → Shared → Prop}

end




section
variable {X : Cx} {o i e value : Expr} {pos pos' tpos : Pos} {td ty tv : TE}
end



section
variable {X : Cx} {pos : Pos}
end


section
variable {X : Cx} {pins : List (Addr × Obj)} {σ : St} {H : Hp} {s : Shared} {a : Addr} {y d : V} {u r : Value} {o : Option V} {A : Around} {E : Value → Shared → Prop}

end

section
variable {X : Cx} {o e f : Expr} {apos cpos : Pos} {td ty tx : TE}
end


section
variable {X : Cx} {pins : List (Addr × Obj)} {σ : St} {H : Hp} {s : Shared} {a : Addr} {kvs : List (Key × V)} {A : Around} {E : Value → Shared → Prop}
end


section
variable {X : Cx} {pins : List (Addr × Obj)} {σ : St} {H : Hp} {s : Shared} {a : Addr} {y : V} {u : Value} {A : Around} {E : Value → Shared → Prop}

end
end L2

set_option Elab.async false
set_option linter.all false
set_option maxRecDepth 100000
set_option maxHeartbeats 4000000
namespace L2
open PySem PySem.Spec PyProof.Rows
def lfV : Lf → V
 | none => .non
 | some k => kV k
theorem paired_comp {α β γ : Type} {F : α → β → Prop} {G : β → γ → Prop} : ∀ {xs : List α} {ys : List β} {zs : List γ}, Paired F xs ys → Paired G ys zs → Paired (fun a c => ∃ b, F a b ∧ G b c) xs zs
 | _, _, _, .nil, .nil => .nil
 | _, _, _, .cons a r, .cons b q => .cons ⟨_, a, b⟩ (paired_comp r q)
section
variable {P : Program} {w : World} {K : Type} [DecidableEq K]
structure AKd (F : PySem.W.Frag) (Z : VKd P w K) where
 on : Hp → K → V → Prop
 ok : ∀ {X : Cx} {pins : List (Addr × Obj)} {σ : St} {H : Hp} {s : Shared} {k : K} {v : V} {u : Value}, X.K = F → Inv X pins σ H s → RelV v u → on H k v → Z.is s.heap k u
 keep : ∀ {H H' : Hp} {k : K} {v : V}, (∀ b xs, SqT F H b xs → SqT F H' b xs) → on H k v → on H' k v
def KAt {F : PySem.W.Frag} {Z : VKd P w K} (Y : AKd F Z) (H : Hp) (ks : List K) (b : Addr) : Prop := ∃ vs, SqT F H b vs ∧ Paired (fun k v => Y.on H k v) ks vs
variable {F : PySem.W.Frag} {Z : VKd P w K} {Y : AKd F Z} {H H' : Hp} {ks : List K} {b : Addr}
theorem KAt.is {X : Cx} {pins : List (Addr × Obj)} {σ : St} {s : Shared} (hF : X.K = F) (I : Inv X pins σ H s) (e : KAt Y H ks b) : TupIs Z s.heap ks b := by
 obtain ⟨vs, e, r⟩ := e
 obtain ⟨its, rv, ⟨o, h1, h2, n, h3⟩, _⟩ := I.tuple (by rw [hF]; exact e)
 exact ⟨o, its.toArray, n, h1, h2, h3, by simpa using Paired.mapP (paired_comp r rv) (fun k u ⟨v, a, c⟩ => Y.ok hF I c a)⟩
theorem KAt.keep (t : ∀ b xs, SqT F H b xs → SqT F H' b xs) (e : KAt Y H ks b) : KAt Y H' ks b := by
 obtain ⟨vs, e, r⟩ := e
 exact ⟨vs, t _ _ e, Paired.mapP r fun k v q => Y.keep t q⟩
theorem KAt.mono (s : ∀ a o, H a = some o → H' a = some o) (e : KAt Y H ks b) : KAt Y H' ks b := e.keep fun b xs q => by
 rcases q with (q | ⟨o, q⟩) | q
 · exact .inl (.inl (s _ _ q))
 · exact .inl (.inr ⟨o, s _ _ q⟩)
 · exact .inr q
end
def leafA (P : Program) (w : World) (F : PySem.W.Frag) : AKd F (leafK P w) where
 on := fun _ k v => v = lfV k
 ok := fun {X pins σ H s k v u} _ _ r e => by
   subst e
   cases k with
   | none => cases r; rfl
   | some k => exact kV_is (P := P) (w := w) r
 keep := fun _ e => e
section
variable {P : Program} {w : World} {K : Type} [DecidableEq K]
def stOn {F : PySem.W.Frag} {Z : VKd P w K} (Y : AKd F Z) (H : Hp) : Lf ⊕ List K → V → Prop
 | .inl k, v => v = lfV k
 | .inr ks, v => ∃ b, v = .ref b ∧ KAt Y H ks b
def stepA {F : PySem.W.Frag} {Z : VKd P w K} (Y : AKd F Z) : AKd F (stepK Z) where
 on := stOn Y
 ok := fun {X pins σ H s k v u} hF I r e => by
   cases k with
   | inl k => exact (leafA P w F).ok hF I r e
   | inr ks =>
     obtain ⟨b, rfl, e⟩ := e
     cases r
     exact ⟨b, rfl, e.is hF I⟩
 keep := fun {H H' k v} t e => by
   cases k with
   | inl k => exact e
   | inr ks => obtain ⟨b, rfl, e⟩ := e; exact ⟨b, rfl, e.keep t⟩
abbrev N3 (K : Type) := List K × Addr × V
variable {F : PySem.W.Frag} {Z : VKd P w K} {Y : AKd F Z} {hl : Z.lev + 1 ≤ 8} {H H' : Hp} {h : Heap} {a b : Addr} {kvs : List (N3 K)}
end
section
variable {X : Cx} {K : Type} [DecidableEq K] {F : PySem.W.Frag} {Z : VKd X.prog X.w K} {Y : AKd F Z} {hl : Z.lev + 1 ≤ 8} {pins : List (Addr × Obj)} {σ : St} {H : Hp} {s : Shared} {a b : Addr} {kvs : List (N3 K)} {k : List K} {v : V} {r : Value} {A : Around} {E : Value → Shared → Prop}
variable {o i value kx : Expr} {pos pos' : Pos} {td ty tv : TE}
end
end L2

set_option Elab.async false
set_option linter.all false
set_option maxRecDepth 100000
set_option maxHeartbeats 4000000
namespace L2
open PySem PySem.Spec PyProof.Rows
section
variable {X : Cx} {K : Type} [DecidableEq K] {F : PySem.W.Frag} {Z : VKd X.prog X.w K}
def rEqN {P : Program} {w : World} {K : Type} [DecidableEq K] {F : PySem.W.Frag} {Z : VKd P w K} (Y : AKd F Z) : R2 := fun x y H Q => ∃ b b' ks ks', x = .ref b ∧ y = .ref b' ∧ KAt Y H ks b ∧ KAt Y H ks' b' ∧ Q (.bl (decide (ks = ks'))) H
theorem op_eqN (Y : AKd F Z) (hF : X.K = F) (hu : X.A.units + (Z.lev + 1) < cLine) : OpR X (compareOp .Eq) (rEqN Y) := by
 intro pins s σ H x y v u Q I rx ry h
 obtain ⟨b, b', ks, ks', rfl, rfl, e1, e2, q⟩ := h
 cases rx; cases ry
 obtain ⟨o, items, n, h1, h2, h3, h4⟩ := e1.is hF I
 obtain ⟨o', items', n', h1', h2', h3', h4'⟩ := e2.is hF I
 have l1 : ks.length = items.size := by rw [Paired.length h4, Array.length_toList]
 have l2 : ks'.length = items'.size := by rw [Paired.length h4', Array.length_toList]
 refine SeqAt.eq_tupleAt (e := fun j => decide (ks[j]? = ks'[j]?)) ⟨o, h1, h2, n, h3⟩ ⟨o', h1', h2', n', h3'⟩ (by omega) (fun j j1 j2 => ?_) ⟨.bl (decide (ks = ks')), H, I, ?_, q⟩
 · obtain ⟨k, ek, hk⟩ := paired_at' h4 j items[j] (by simp [j1])
   obtain ⟨k', ek', hk'⟩ := paired_at' h4' j items'[j] (by simp [j2])
   rw [ek, ek', show decide (some k = some k') = decide (k = k') by simp]
   exact Z.eq (by show X.A.units + 1 + Z.lev < cLine; omega) hk hk'
 · show Value.bool _ = Value.bool _
   rw [← l1, ← l2, all_eq_dec]
end
abbrev ZM (P : Program) (w : World) := stepK (leafK P w)
abbrev YL (P : Program) (w : World) (F : PySem.W.Frag) := leafA P w F
abbrev YM (P : Program) (w : World) (F : PySem.W.Frag) : AKd F (ZM P w) := stepA (leafA P w F)
theorem hn0 {A : Around} {P : Program} {w : World} (h : A.units + 64 < cLine) : A.units + ((leafK P w).lev + 1) < cLine := by show A.units + 1 < cLine; omega
theorem hn1 {A : Around} {P : Program} {w : World} (h : A.units + 64 < cLine) : A.units + ((ZM P w).lev + 1) < cLine := by show A.units + 2 < cLine; omega
theorem hn2 {A : Around} {P : Program} {w : World} (h : A.units + 64 < cLine) : A.units + 1 + ((ZM P w).lev + 1) < cLine := by show A.units + 1 + 2 < cLine; omega
def pairK (k s : Str) : List Lf := [some (.inr k), some (.inr s)]
def markK (m : (Str × Str) × Nat) : List (Lf ⊕ List Lf) := [.inr (pairK m.1.1 m.1.2), .inl (some (.inl m.2))]
theorem pairK_inj {k s k' s' : Str} : pairK k s = pairK k' s' ↔ (k, s) = (k', s') := by
 unfold pairK
 constructor
 · intro h; injection h with h1 h2; injection h2 with h2 _; injection h1 with h1; injection h2 with h2; injection h1 with h1; injection h2 with h2; rw [h1, h2]
 · intro h; injection h with h1 h2; rw [h1, h2]
theorem markK_inj {m m' : (Str × Str) × Nat} : markK m = markK m' ↔ m = m' := by
 unfold markK
 constructor
 · intro h
   injection h with h1 h2
   injection h2 with h2 _
   injection h1 with h1
   injection h2 with h2; injection h2 with h2; injection h2 with h2
   have e := pairK_inj.mp h1
   obtain ⟨⟨a, b⟩, n⟩ := m
   obtain ⟨⟨a', b'⟩, n'⟩ := m'
   injection e with e1 e2
   have h2 : n = n' := Int.ofNat.inj h2
   simp only at e1 e2
   rw [e1, e2, h2]
 · rintro rfl; rfl
section
variable {P : Program} {w : World} {F : PySem.W.Frag} {H : Hp}
theorem pair_at {a : Addr} {k s : Str} (h : SqT F H a [.str k, .str s]) : KAt (YL P w F) H (pairK k s) a := ⟨_, h, .cons rfl (.cons rfl .nil)⟩
theorem mark_at {b s : Addr} {m : (Str × Str) × Nat} (h : SqT F H b [.ref s, .int m.2]) (h2 : SqT F H s [.str m.1.1, .str m.1.2]) : KAt (YM P w F) H (markK m) b := ⟨_, h, .cons ⟨s, rfl, pair_at h2⟩ (.cons rfl .nil)⟩
end
section
variable {X : Cx} {P : Program} {w : World} {K : Type} [DecidableEq K] {F : PySem.W.Frag} {Z : VKd P w K} {o i value kx : Expr} {pos pos' : Pos} {td ty tv tk : TE}
end
end L2

set_option Elab.async false
set_option linter.all false
set_option maxRecDepth 100000
set_option maxHeartbeats 4000000
namespace L2
open PySem PySem.Spec PyProof.Rows
section
variable {X : Cx}
def rNeM (K : PySem.W.Frag) : R2 := fun x y H Q => ((x = .non ∧ ∃ a xs, y = .ref a ∧ SqL K H a xs) ∨ (y = .non ∧ ∃ a xs, x = .ref a ∧ SqL K H a xs)) ∧ Q (.bl true) H
theorem op_neM (K : PySem.W.Frag) (hK : X.K = K) (hu : X.A.units < cLine) : OpR X (compareOp .NotEq) (rNeM K) := by
 subst hK
 intro pins s σ H x y v u Q I rx ry h
 obtain ⟨h, q⟩ := h
 rcases h with ⟨rfl, a, xs, rfl, ha⟩ | ⟨rfl, a, xs, rfl, ha⟩
 · cases rx; cases ry
   obtain ⟨its, r1, p1, _⟩ := I.list ha
   show wpAny _ _ (richCompare .NotEq .none (.ref a)) _ _ _
   exact SeqAt.RcNeAt.none_list p1.isList hu _ _ _ _ ⟨.bl true, H, I, rfl, q⟩
 · cases rx; cases ry
   obtain ⟨its, r1, p1, _⟩ := I.list ha
   show wpAny _ _ (richCompare .NotEq (.ref a) .none) _ _ _
   exact SeqAt.RcNeAt.list_none p1.isList hu _ _ _ _ ⟨.bl true, H, I, rfl, q⟩
theorem op_isB : OpR X (compareOp .Is) (fun x y H Q => ∃ a b, x = .bl a ∧ y = .bl b ∧ Q (.bl (a == b)) H) := by
 intro pins s σ H x y v u Q I rx ry h
 obtain ⟨a, b, rfl, rfl, q⟩ := h
 cases rx
 cases ry
 refine wpAny_is_plain (by cases a <;> cases b <;> rfl) (fin_bl I q ?_)
 cases a <;> cases b <;> rfl
def rMulA : R2 := fun x y H Q => ∃ (z : Str) (k : Int), x = .str z ∧ y = .int k ∧ 0 ≤ k ∧ k < 1000000 ∧ z.length * k.toNat ≤ 10000000 ∧ z.length ≤ 10000000 ∧ Q (.str (repS z k.toNat)) H
theorem rep_once (z : Str) : repS z 1 = z := by
 unfold repS
 show (⟨#[] ++ z.cps⟩ : Str) = z
 rw [Array.empty_append]
theorem rep_em {z : Str} (h : z.length = 0) (n : Nat) : repS z n = z := by
 have e : z.cps = #[] := Array.eq_empty_of_size_eq_zero h
 have key : ∀ n : Nat, (List.replicate n (#[] : Array Nat)).foldl (· ++ ·) (#[] : Array Nat) = #[] := fun n => by
   induction n with
   | zero => rfl
   | succ n ih => rw [List.replicate_succ, List.foldl_cons, Array.append_empty]; exact ih
 obtain ⟨c⟩ := z
 have e : c = #[] := e
 unfold repS
 show (⟨(List.replicate n c).foldl (· ++ ·) #[]⟩ : Str) = ⟨c⟩
 rw [e, key n]
theorem op_mulA : OpR X (binaryOp .Mult) rMulA := by
 intro pins s σ H x y v u Q I rx ry h
 obtain ⟨z, k, rfl, rfl, hk, hk2, hl, hz, q⟩ := h
 obtain ⟨t, rfl⟩ := rx
 obtain ⟨t', rfl⟩ := ry
 have tl : Builtin.Str.tooLong (z.length * k.toNat) = false := by
   unfold Builtin.Str.tooLong
   have hsl : 10000000 ≤ sizeLine := by decide
   simp
   omega
 refine P.mul_str (by simp; omega) (fun _ _ => ?_) (fun _ _ => tl) ?_
 · intro h
   have h3 : (10000000 : Int) ≤ (2 ^ 63 - 1) / k := by
     rw [Int.le_ediv_iff_mul_le (by omega)]
     omega
   omega
 · by_cases e1 : k < 1
   · rw [if_pos e1]
     have : k = 0 := by omega
     subst this
     exact ⟨by decide, .str _, H, I.tok _, ⟨_, rfl⟩, q⟩
   · rw [if_neg e1]
     cases e2 : (k == 1 || z.length == 0) with
     | true =>
       rw [if_pos rfl]
       have er : repS z k.toNat = z := by
         rw [Bool.or_eq_true] at e2
         rcases e2 with e | e
         · have : k = 1 := by simpa using e
           subst this; exact rep_once z
         · exact rep_em (by simpa using e) _
       rw [er] at q
       exact ⟨.str _, H, I, ⟨_, rfl⟩, q⟩
     | false =>
       rw [if_neg (by decide)]
       exact ⟨fits_reps tl, ⟨.str _, H, I.tok _, ⟨_, rfl⟩, q⟩⟩
end
end L2

set_option Elab.async false
set_option linter.all false
set_option maxRecDepth 100000
set_option maxHeartbeats 4000000
namespace L2
open PySem PySem.Spec PyProof.Rows
section
variable {X : Cx}
def rEqM (K : PySem.W.Frag) : R2 := fun x y H Q => ((x = .non ∧ ∃ a xs, y = .ref a ∧ SqL K H a xs) ∨ (y = .non ∧ ∃ a xs, x = .ref a ∧ SqL K H a xs)) ∧ Q (.bl false) H
theorem op_eqM (K : PySem.W.Frag) (hK : X.K = K) (hu : X.A.units < cLine) : OpR X (compareOp .Eq) (rEqM K) := by
 subst hK
 intro pins s σ H x y v u Q I rx ry h
 obtain ⟨h, q⟩ := h
 rcases h with ⟨rfl, a, xs, rfl, ha⟩ | ⟨rfl, a, xs, rfl, ha⟩
 · cases rx; cases ry
   obtain ⟨its, r1, p1, _⟩ := I.list ha
   show wpAny _ _ (richCompare .Eq .none (.ref a)) _ _ _
   exact SeqAt.RcAt.none_list p1.isList hu _ _ _ _ ⟨.bl false, H, I, rfl, q⟩
 · cases rx; cases ry
   obtain ⟨its, r1, p1, _⟩ := I.list ha
   show wpAny _ _ (richCompare .Eq (.ref a) .none) _ _ _
   exact SeqAt.RcAt.list_none p1.isList hu _ _ _ _ ⟨.bl false, H, I, rfl, q⟩
end
section
variable {X : Cx} {K : Type} [DecidableEq K] {F : PySem.W.Frag} {Z : VKd X.prog X.w K}
def rNeN {P : Program} {w : World} {K : Type} [DecidableEq K] {F : PySem.W.Frag} {Z : VKd P w K} (Y : AKd F Z) : R2 := fun x y H Q => ∃ b b' ks ks', x = .ref b ∧ y = .ref b' ∧ KAt Y H ks b ∧ KAt Y H ks' b' ∧ Q (.bl (!decide (ks = ks'))) H
theorem op_neN (Y : AKd F Z) (hF : X.K = F) (hu : X.A.units + (Z.lev + 1) < cLine) : OpR X (compareOp .NotEq) (rNeN Y) := by
 intro pins s σ H x y v u Q I rx ry h
 obtain ⟨b, b', ks, ks', rfl, rfl, e1, e2, q⟩ := h
 cases rx; cases ry
 obtain ⟨o, items, n, h1, h2, h3, h4⟩ := e1.is hF I
 obtain ⟨o', items', n', h1', h2', h3', h4'⟩ := e2.is hF I
 have l1 : ks.length = items.size := by rw [Paired.length h4, Array.length_toList]
 have l2 : ks'.length = items'.size := by rw [Paired.length h4', Array.length_toList]
 show wpAny _ _ (richCompare .NotEq (.ref b) (.ref b')) _ _ _
 refine SeqAt.RcNeAt.tuples (e := fun j => decide (ks[j]? = ks'[j]?)) ⟨o, h1, h2, n, h3⟩ ⟨o', h1', h2', n', h3'⟩ (by omega) (fun j j1 j2 => ?_) _ _ _ _ ⟨.bl (!decide (ks = ks')), H, I, ?_, q⟩
 · obtain ⟨k, ek, hk⟩ := paired_at' h4 j items[j] (by simp [j1])
   obtain ⟨k', ek', hk'⟩ := paired_at' h4' j items'[j] (by simp [j2])
   rw [ek, ek', show decide (some k = some k') = decide (k = k') by simp]
   exact Z.eq (by show X.A.units + 1 + Z.lev < cLine; omega) hk hk'
 · show Value.bool _ = Value.bool _
   rw [← l1, ← l2, all_eq_dec]
end
end L2

set_option Elab.async false
set_option linter.all false
set_option maxRecDepth 100000
set_option maxHeartbeats 4000000
namespace L2
open PySem PySem.Spec PyProof.Rows
section
variable {prog : Program} {w : World} {A : Around} {E : Value → Shared → Prop} {s : Shared}
end
section
variable {X : Cx} {e : Expr}
end
end L2

set_option Elab.async false
set_option linter.all false
set_option maxRecDepth 100000
set_option maxHeartbeats 4000000
namespace L2
open PySem PySem.Spec PyProof.Rows
section
variable {prog : Program} {w : World} {A : Around} {E : Value → Shared → Prop} {s : Shared} {d it i ep : Nat} {od : Obj} {es : Array DictEntry}
end
section
variable {P : Program} {w : World} {K : Type} [DecidableEq K]
variable {Z : VKd P w K} {hl : Z.lev + 1 ≤ 8}
end

section
variable {X : Cx} {K : Type} [DecidableEq K] {F : PySem.W.Frag} {Z : VKd X.prog X.w K}
end
end L2

set_option Elab.async false
set_option linter.all false
set_option maxRecDepth 100000
set_option maxHeartbeats 4000000
namespace L2
open PySem PySem.Spec PyProof.Rows
section
variable {X : Cx}
end
end L2

set_option Elab.async false
set_option linter.all false
namespace L2
open PySem
theorem rdT {A B : Prop} {b : Bool} (hb : b = true) (h : A) : if b = true then A else B := by rw [if_pos hb]; exact h
theorem rdF {A B : Prop} {b : Bool} (hb : b = false) (h : B) : if b = true then A else B := by rw [if_neg (by rw [hb]; decide)]; exact h
theorem rdD {p A B : Prop} [Decidable p] (hp : p) (h : A) : if decide p = true then A else B := rdT (decide_eq_true hp) h
theorem rdDn {p A B : Prop} [Decidable p] (hp : ¬ p) (h : B) : if decide p = true then A else B := rdF (decide_eq_false hp) h
theorem rdN {p A B : Prop} [Decidable p] (hp : p) (h : B) : if (!decide p) = true then A else B := rdF (by rw [decide_eq_true hp]; rfl) h
theorem rdNn {p A B : Prop} [Decidable p] (hp : ¬ p) (h : A) : if (!decide p) = true then A else B := rdT (by rw [decide_eq_false hp]; rfl) h
theorem rdI {A B : Prop} {a b : Int} (hp : a = b) (h : A) : if decide (V.int a = V.int b) = true then A else B := rdD (by rw [hp]) h
theorem rdIn {A B : Prop} {a b : Int} (hp : ¬ a = b) (h : B) : if decide (V.int a = V.int b) = true then A else B := rdDn (fun e => hp (V.int.inj e)) h
theorem rdB {A B : Prop} {b : Bool} (h1 : b = true → A) (h2 : b = false → B) : if b = true then A else B := by
 cases b with
 | true => exact iteT (h1 rfl)
 | false => exact iteF (h2 rfl)
theorem rd2n {p A B : Prop} [Decidable p] (h1 : ¬ p → A) (h2 : p → B) : if (!decide p) = true then A else B := by
 by_cases h : p
 · exact rdN h (h2 h)
 · exact rdNn h (h1 h)
theorem rd2i {A B : Prop} {a b : Int} (h1 : a = b → A) (h2 : ¬ a = b → B) : if decide (V.int a = V.int b) = true then A else B := by
 by_cases h : a = b
 · exact rdI h (h1 h)
 · exact rdIn h (h2 h)
end L2

set_option Elab.async false
set_option linter.all false
set_option maxRecDepth 100000
set_option maxHeartbeats 4000000
namespace L2
open PySem PySem.Spec PyProof.Rows
theorem rv_owner : Manifest.owners.lookup (String.ofList ['d', 'e', 's', 'r', 'e', 'v', 'e', 'r'].reverse) = some Manifest.sig_reversed := by kernel_rfl
theorem rv_slot_next : Slot "reversed" "__next__" "reversed.__next__" :=
 .of (owner := "reversed") (n := "__next__") (by rw [typeLookup_type, builtinLookup_eq_fast]; kernel_rfl) (by decide +kernel) (by decide +kernel) (by decide +kernel)
   (by first | exact .inl (by decide +kernel) | exact .inr (by decide +kernel)) (by rw [isSubtype_type]; kernel_rfl)
theorem rv_entry_next : entryFor table "reversed.__next__" = some Builtin.«reversed.__next__» := entryFor_of_tree (by kernel_rfl)
theorem rv_args_next (a : Value) : argsOk "reversed.__next__" ⟨[a], []⟩ := by
 unfold argsOk; rw [signature?_of (id := "reversed.__next__") (n := ['_', '_', 't', 'x', 'e', 'n', '_', '_']) (o := ['d', 'e', 's', 'r', 'e', 'v', 'e', 'r']) (by kernel_rfl) rv_owner]; kernel_rfl
theorem rv_slot_iter : Slot "reversed" "__iter__" "reversed.__iter__" :=
 .of (owner := "reversed") (n := "__iter__") (by rw [typeLookup_type, builtinLookup_eq_fast]; kernel_rfl) (by decide +kernel) (by decide +kernel) (by decide +kernel)
   (by first | exact .inl (by decide +kernel) | exact .inr (by decide +kernel)) (by rw [isSubtype_type]; kernel_rfl)
theorem rv_args_iter (a : Value) : argsOk "reversed.__iter__" ⟨[a], []⟩ := by
 unfold argsOk; rw [signature?_of (id := "reversed.__iter__") (n := ['_', '_', 'r', 'e', 't', 'i', '_', '_']) (o := ['d', 'e', 's', 'r', 'e', 'v', 'e', 'r']) (by kernel_rfl) rv_owner]; kernel_rfl
theorem rv_entry_iter : entryFor table "reversed.__iter__" = some Builtin.«dict_keyiterator.__iter__» :=
 entryFor_alias (id' := "dict_keyiterator.__iter__") (by kernel_rfl) (by first | rfl | decide +kernel | (unfold String.splitOn; simp +decide [String.splitOnAux])) (by decide +kernel) (by kernel_rfl)
theorem rv_slot_hint : Slot "reversed" "__length_hint__" "reversed.__length_hint__" :=
 .of (owner := "reversed") (n := "__length_hint__") (by rw [typeLookup_type, builtinLookup_eq_fast]; kernel_rfl) (by decide +kernel) (by decide +kernel) (by decide +kernel)
   (by first | exact .inl (by decide +kernel) | exact .inr (by decide +kernel)) (by rw [isSubtype_type]; kernel_rfl)
theorem rv_entry_hint : entryFor table "reversed.__length_hint__" = some Builtin.«reversed.__length_hint__» := entryFor_of_tree (by kernel_rfl)
theorem rv_args_hint (a : Value) : argsOk "reversed.__length_hint__" ⟨[a], []⟩ := by
 unfold argsOk; rw [signature?_of (id := "reversed.__length_hint__") (n := ['_', '_', 't', 'n', 'i', 'h', '_', 'h', 't', 'g', 'n', 'e', 'l', '_', '_']) (o := ['d', 'e', 's', 'r', 'e', 'v', 'e', 'r']) (by kernel_rfl) rv_owner]; kernel_rfl
theorem rv_slot_init : Slot "reversed" "__init__" "object.__init__" :=
 .of (owner := "object") (n := "__init__") (by rw [typeLookup_type, builtinLookup_eq_fast]; kernel_rfl) (by decide +kernel) (by decide +kernel) (by decide +kernel)
   (by first | exact .inl (by decide +kernel) | exact .inr (by decide +kernel)) (by rw [isSubtype_type]; kernel_rfl)
theorem rv_called : TypeCalled "reversed" "reversed.__new__" "object.__init__" :=
 ⟨by decide +kernel, by decide +kernel, ⟨_, _, F.mro_reversed⟩, F.made_reversed, by decide +kernel, by rw [isSubtype_type]; kernel_rfl, rv_slot_init⟩
theorem rv_args_init (a b : Value) : argsOk "object.__init__" ⟨[a, b], []⟩ := by
 unfold argsOk; rw [signature?_of (id := "object.__init__") (n := ['_', '_', 't', 'i', 'n', 'i', '_', '_']) (o := ['t', 'c', 'e', 'j', 'b', 'o']) (by kernel_rfl) F.owner_object]; kernel_rfl
theorem str_no_rev : typeLookup (.type "str") "__reversed__" = pure none := by rw [typeLookup_type, builtinLookup_eq_fast]; kernel_rfl
theorem rv_no_len : typeLookup (.type "reversed") "__len__" = pure none := by rw [typeLookup_type, builtinLookup_eq_fast]; kernel_rfl
theorem str_no_dict : isSubtype (.type "str") (.type "dict") = pure false := by rw [isSubtype_type]; kernel_rfl
def rvObj (x : Str) (t : Tok) (i : Int) : Obj := { cls := .type "reversed", data := .fields #[.str x t, rawInt i] }
def IsRevT (h : Heap) (a : Addr) (x : Str) (t : Tok) (i : Int) : Prop := ∃ o, h.get? a = some o ∧ o.cls = .type "reversed" ∧ o.data = .fields #[.str x t, rawInt i]
section
variable {prog : Program} {w : World} {A : Around} {E : Value → Shared → Prop} {s : Shared}
theorem IsRevT.typeIs {a : Addr} {x : Str} {t : Tok} {i : Int} (q : IsRevT s.heap a x t i) : s.TypeIs (.ref a) "reversed" := let ⟨o, ho, hc, _⟩ := q; ⟨o, ho, hc⟩
theorem IsRevT.at {h h' : Heap} {a : Addr} {x : Str} {t : Tok} {i : Int} (q : IsRevT h a x t i) (e : ∀ o, h.get? a = some o → h'.get? a = some o) : IsRevT h' a x t i := let ⟨o, ho, r⟩ := q; ⟨o, e _ ho, r⟩
theorem rv_new {x : Str} {t : Tok} (hfit : ¬ (x.length : Int) ≥ 2 ^ 63) : Meets (Builtin.«reversed.__new__» ⟨[.type "reversed", .str x t], []⟩)
   (fun _ R s => R (.ok (.ret (.ref s.heap.objs.size))) { s with heap := s.heap.push (rvObj x t ((x.length : Int) - 1)), toks := s.toks + 1 + 1 }) := by
 refine Meets.of_wp fun prog w A R s hs => ?_
 unfold Builtin.«reversed.__new__»
 refine wpAny_bind (wpAny_of_eq (newClass_reversed _) ?_)
 try dsimp only
 refine wpAny_bind (wpAny_of_eq (a := ()) (by first | rfl | kernel_rfl) ?_)
 refine wpAny_bind (wpAny_of_eq (a := ()) (by first | rfl | kernel_rfl) ?_)
 try dsimp only
 refine wpAny_bind (wpAny_specialOf (typeIs_str _ _ _) str_no_rev ?_)
 try dsimp only
 refine wpAny_bind ?_
 wp_delta
 refine wpAny_bind (wpAny_isInstance (T := "str") (b := false) (typeIs_str _ _ _) str_no_dict ?_)
 rw [if_neg (by decide)]
 refine wpAny_bind (wpAny_specialOf (typeIs_str _ _ _) F.slot_str_getitem.lookup ?_)
 dsimp only
 rw [if_pos (by decide +kernel)]
 refine wpAny_pure ?_
 rw [if_neg (by decide)]
 refine wpAny_bind (P.len_str hfit ?_)
 refine wpAny_bind (wpAny_of_eq (a := some (x.length : Int)) rfl ?_)
 dsimp only
 refine wpAny_bind ?_
 unfold Builtin.SmallTypes.newRecord
 refine wpAny_newObj_type ?_ (by size_fits)
 exact wpAny_pure ⟨_, rfl, hs⟩
theorem call_rev_text {x : Str} {t : Tok} {Q : Value → Shared → Prop} (hfit : ¬ (x.length : Int) ≥ 2 ^ 63)
   (h : Q (.ref s.heap.objs.size) { s with heap := s.heap.push (rvObj x t ((x.length : Int) - 1)), toks := s.toks + 1 + 1 }) : wpAny (model prog w) A (call (.type "reversed") [.str x t]) Q E s :=
 callType_new rv_called (by decide +kernel) (F.typeCall_reversed_1 _) (F.newCall_reversed_1 _) (fun o => rv_args_init o _) F.entry_reversed_new (rv_new hfit) ⟨⟨_, Heap.get?_push_size _ rfl, rfl⟩, h⟩
theorem rv_next_item {it : Addr} {x : Str} {t : Tok} {i : Nat} {c : Nat} {Q : Option Value → Shared → Prop} (hit : IsRevT s.heap it x t (i : Int)) (hx : x.cps[i]? = some c) (hi : (i : Int) < 2 ^ 63)
   (hQ : ∀ h' tok tk, IsRevT h' it x t ((i : Int) - 1) → Heap.SameBut it s.heap h' → Q (some (.str ⟨#[c]⟩ tok)) { s with heap := h', toks := tk }) : wpAny (model prog w) A (pyNext (.ref it)) Q E s := by
 obtain ⟨o, ho, hc, hd⟩ := id hit
 unfold pyNext
 refine wpAny_bind (wpAny_attempt (wpAny_callSpecial?_slot (name := Str.ofString "__next__") hit.typeIs rv_slot_next
   (wpAny_call_entry rv_slot_next hit.typeIs rv_entry_next ?_ (rv_args_next _))))
 unfold Builtin.«reversed.__next__»
 refine wpAny_bind (wpAny_of_eq (a := (Value.ref it, [])) rfl ?_)
 try dsimp only
 refine wpAny_bind (wpAny_field ho hd (x := .str x t) rfl ?_)
 refine wpAny_bind (wpAny_field ho hd (x := rawInt (i : Int)) rfl ?_)
 show wpAny _ _ (if (i : Int) < 0 then _ else _) _ _ s
 rw [if_neg (by omega)]
 refine wpAny_bind (wpAny_specialOf (typeIs_str _ _ _) F.slot_str_getitem.lookup ?_)
 rw [if_neg (by decide)]
 refine wpAny_bind (wpAny_mkInt ?_)
 have hlt : i < x.length := by
   have := (Array.getElem?_eq_some_iff.mp hx).1
   exact this
 refine wpAny_bind (wpAny_attempt (P.getItem_str (c := c) ?_ ?_ ?_))
 · have h1 : ¬ ((i : Int) < -(2 ^ 63 : Int)) := by omega
   have h2 : ¬ ((i : Int) ≥ 2 ^ 63) := by omega
   rw [decide_eq_false h1, decide_eq_false h2]; rfl
 · have : seqIndex? (i : Int) x.length = some i := by
     unfold seqIndex?
     have h0 : ¬ (i : Int) < 0 := by omega
     simp [h0, hlt]
   rw [this]; exact hx
 · dsimp only
   refine wpAny_bind (wpAny_field ho hd (x := rawInt (i : Int)) rfl ?_)
   show wpAny _ _ (setField (.ref it) 1 (rawInt ((i : Int) - 1)) >>= _) _ _ _
   refine wpAny_bind (wpAny_setField ho hd (by simp) ?_)
   refine wpAny_pure ⟨_, rfl, wpAny_pure (hQ _ _ _ ?_ (Heap.SameBut.update ..))⟩
   exact ⟨_, Heap.get?_update_self _ ho (Obj.isFreed_of_fields (Obj.data_mapFields hd _)), (Obj.cls_mapFields ..).trans hc, by
     rw [Obj.data_mapFields hd]; simp⟩
theorem rv_next_end {it : Addr} {x : Str} {t : Tok} {Q : Option Value → Shared → Prop} (hh : A.handled = none) (hit : IsRevT s.heap it x t (-1))
   (hQ : ∀ h', Heap.ExtBut it s.heap h' → Q none { s with heap := h' }) : wpAny (model prog w) A (pyNext (.ref it)) Q E s := by
 obtain ⟨o, ho, hc, hd⟩ := id hit
 unfold pyNext
 refine wpAny_bind (wpAny_attempt (wpAny_callSpecial?_slot (name := Str.ofString "__next__") hit.typeIs rv_slot_next
   (wpAny_call_entry rv_slot_next hit.typeIs rv_entry_next ?_ (rv_args_next _))))
 unfold Builtin.«reversed.__next__»
 refine wpAny_bind (wpAny_of_eq (a := (Value.ref it, [])) rfl ?_)
 try dsimp only
 refine wpAny_bind (wpAny_field ho hd (x := .str x t) rfl ?_)
 refine wpAny_bind (wpAny_field ho hd (x := rawInt (-1)) rfl ?_)
 show wpAny _ _ (if (-1 : Int) < 0 then _ else _) _ _ s
 rw [if_pos (by decide)]
 refine wpAny_bind (wpAny_rule ?_)
 refine wpAny_bind ?_
 wp_delta
 refine wpAny_bind (wpAny_setField ho hd (by simp) ?_)
 have ho1 := Heap.get?_update_self (Obj.mapFields fun vs => vs.setIfInBounds 1 (rawInt (-1))) ho (Obj.isFreed_of_fields (Obj.data_mapFields hd _))
 refine wpAny_setField ho1 (Obj.data_mapFields hd _) (by simp) ?_
 refine wpAny_bind ?_
 show wpAny _ _ (newExc (.type "StopIteration") [] >>= _) _ _ _
 refine wpAny_bind ?_
 simp only [newExc, newTuple]
 refine wpAny_bind (wpAny_newObj_type ?_ (by size_fits))
 refine wpAny_bind (m := firstArgMember _ _) (wpAny_of_eq (a := Value.none) (by first | rfl | (simp only [firstArgMember]; rfl)) ?_)
 refine wpAny_newObj_type ?_ (by size_fits)
 simp only [raiseNew]
 refine wpAny_bind (wpAny_handled ?_)
 first | rw [show A.in1.handled = none from hh] | rw [hh]
 refine wpAny_bind (wpAny_pure (wpAny_throw ?_))
 refine wpAny_bind (wpAny_isInstance (T := "StopIteration") (b := true) ⟨_, Heap.get?_push_size _ rfl, rfl⟩ isSubtype_stop ?_)
 refine wpAny_pure (hQ _ (Heap.ExtBut.push (Heap.ExtBut.push (fun b o hb e => ?_) _) _))
 exact (Heap.get?_update_other _ _ (Ne.symm hb)).trans ((Heap.get?_update_other _ _ (Ne.symm hb)).trans e)
theorem rv_pyIter {it : Addr} {x : Str} {t : Tok} {i : Int} {Q : Value → Shared → Prop} (hit : IsRevT s.heap it x t i) (h : Q (.ref it) s) : wpAny (model prog w) A (pyIter (.ref it)) Q E s := by
 refine wpAny_pyIter_slot hit.typeIs rv_slot_iter (wpAny_call_entry rv_slot_iter hit.typeIs rv_entry_iter ?_ (rv_args_iter _))
 show wpAny _ _ (ret (.ref it)) _ _ s
 exact wpAny_pure ⟨_, rfl, "reversed", _, hit.typeIs, rv_slot_next.lookup, h⟩
theorem walks_revT {prog : Program} {w : World} {A : Around} (hh : A.handled = none) (I : Addr) (x : Str) (t : Tok) (hf : (x.length : Int) < 2 ^ 63) :
   Walks prog w A I [I] [I] x.length (fun i v => ∃ c tk, x.cps[x.length - 1 - i]? = some c ∧ v = .str ⟨#[c]⟩ tk) (fun i h => i ≤ x.length ∧ IsRevT h I x t ((x.length : Int) - 1 - (i : Int))) where
 sub := fun b hb => hb
 frame := fun _ _ _ q hk => ⟨q.1, q.2.at fun o e => hk I (by simp) o e⟩
 item := fun i s Q E hi q hQ => by
   have e : (x.length : Int) - 1 - (i : Int) = ((x.length - 1 - i : Nat) : Int) := by omega
   have hit := q.2
   rw [e] at hit
   have hlt : x.length - 1 - i < x.cps.size := by have : x.length = x.cps.size := rfl; omega
   have hx : x.cps[x.length - 1 - i]? = some (x.cps[x.length - 1 - i]'hlt) := Array.getElem?_eq_getElem hlt
   refine rv_next_item hit hx (by omega) fun h' tok tk hit' hs' => ?_
   have e2 : ((x.length - 1 - i : Nat) : Int) - 1 = (x.length : Int) - 1 - ((i + 1 : Nat) : Int) := by omega
   rw [e2] at hit'
   exact hQ _ h' tk ⟨_, _, hx, rfl⟩ ⟨hi, hit'⟩ fun b o hb eo => hs'.extBut b o (fun h => hb (by simp [h])) eo
 done := fun s Q E q hQ => by
   have e : (x.length : Int) - 1 - (x.length : Int) = -1 := by omega
   have hit := q.2
   rw [e] at hit
   exact rv_next_end hh hit fun h' he' => hQ h' s.toks fun b o hb eo => he' b o (fun h => hb (by simp [h])) eo
 self := fun _ _ _ _ q hQ => rv_pyIter q.2 hQ
theorem hint_revT {I : Addr} {x : Str} {t : Tok} {Q : Bool → Shared → Prop} (hz : x.length ≤ sizeLine) (hit : IsRevT s.heap I x t ((x.length : Int) - 1)) (h : ∀ b tk, Q b { s with toks := tk }) : wpAny (model prog w) A (Builtin.List.listLengthHint (.ref I)) Q E s := by
 obtain ⟨o, ho, hc, hd⟩ := id hit
 unfold Builtin.List.listLengthHint
 refine wpAny_bind (wpAny_specialOf hit.typeIs rv_no_len ?_)
 show wpAny _ _ (specialOf (Value.ref I) (Str.ofString "__length_hint__") >>= _) _ _ _
 refine wpAny_bind (wpAny_specialOf hit.typeIs rv_slot_hint.lookup ?_)
 generalize hid : ("reversed.__length_hint__" : String) = id0
 wp_delta
 rw [show splitId id0 = some ("reversed", "__length_hint__") from by subst hid; decide +kernel]
 subst hid
 refine wpAny_bind (wpAny_isInstance (T := "reversed") (b := true) hit.typeIs (by rw [isSubtype_type]; kernel_rfl) ?_)
 refine wpAny_ite_split (fun hab => absurd hab (by decide)) (fun _ => ?_)
 refine wpAny_ite_split (fun hab => absurd hab (by decide +kernel)) (fun _ => ?_)
 refine wpAny_bind (wpAny_rule ?_)
 refine wpAny_bind (wpAny_of_eq (rv_slot_hint.bind _) ?_)
 dsimp only
 refine wpAny_bind (wpAny_attempt (wpAny_call_entry rv_slot_hint hit.typeIs rv_entry_hint ?_ (rv_args_hint _)))
 unfold Builtin.«reversed.__length_hint__»
 refine wpAny_bind (wpAny_of_eq (a := Value.ref I) (by first | rfl | kernel_rfl) ?_)
 refine wpAny_bind (wpAny_field ho hd (x := .str x t) rfl ?_)
 show wpAny _ _ (if (Value.str x t == Value.none) = true then _ else _) _ _ _
 rw [if_neg (show ¬ ((Value.str x t == Value.none) = true) from Bool.false_ne_true)]
 have hz' : ¬ (x.length : Int) ≥ 2 ^ 63 := by have : sizeLine < 2 ^ 63 := by decide +kernel
                                              omega
 refine wpAny_bind (P.len_str hz' ?_)
 refine wpAny_bind (wpAny_of_eq (a := some (x.length : Int)) rfl ?_)
 dsimp only
 refine wpAny_bind (wpAny_field ho hd (x := rawInt ((x.length : Int) - 1)) rfl ?_)
 show wpAny _ _ (if (x.length : Int) < (x.length : Int) - 1 + 1 then _ else _) _ _ _
 rw [if_neg (by omega)]
 have e1 : (x.length : Int) - 1 + 1 = x.length := by omega
 rw [e1]
 refine wpAny_bind (wpAny_mkInt ?_)
 refine wpAny_pure ⟨_, rfl, ?_⟩
 show wpAny _ _ (asInt? (.int (x.length : Int) _) >>= _) _ _ _
 have ea : ∀ tk, asInt? (Value.int (x.length : Int) tk) = pure (some (x.length : Int)) := fun _ => rfl
 refine wpAny_bind ?_
 rw [ea]
 refine wpAny_pure ?_
 show wpAny _ _ (if (!Builtin.List.listFitsIndex (x.length : Int)) = true then _ else _) _ _ _
 have f1 : Builtin.List.listFitsIndex (x.length : Int) = true := by
   unfold Builtin.List.listFitsIndex; rw [Bool.and_eq_true]; exact ⟨decide_eq_true (by omega), decide_eq_true (by omega)⟩
 have f2 : Builtin.List.listTooLong (x.length : Int).toNat = false := by
   unfold Builtin.List.listTooLong; exact decide_eq_false (by rw [Int.toNat_natCast]; omega)
 rw [f1, f2, if_neg (by decide), if_neg (by omega), if_neg (by decide)]
 have hb := h ((x.length : Int) != 0) (s.toks + 1 + 1 + 1)
 exact wpAny_pure hb
theorem touch {S : Addr} {c : Nat} {Q : Unit → Shared → Prop} (hS : s.heap.get? S = some { cls := .type "list", dict := none, data := .seq #[] c, slots := #[] })
   (h : ∀ h' c', h'.get? S = some { cls := .type "list", dict := none, data := .seq #[] c', slots := #[] } → Heap.SameBut S s.heap h' → Q () { s with heap := h' }) : wpAny (model prog w) A (Builtin.List.listTouch (.ref S)) Q E s := by
 unfold Builtin.List.listTouch
 show wpAny _ _ (updateSeq S (·.push .none) >>= fun _ => updateSeq S (·.pop)) _ _ s
 refine wpAny_bind (wpAny_updateSeq hS rfl ?_)
 have h1 := Heap.get?_update_self (Obj.mapSeq fun xs => xs.push Value.none) hS rfl
 refine wpAny_updateSeq h1 rfl (h _ _ (Heap.get?_update_self _ h1 rfl) ?_)
 have a := Heap.SameBut.update (h := s.heap) (a := S) (Obj.mapSeq fun xs => xs.push Value.none)
 have b := Heap.SameBut.update (h := s.heap.update S (Obj.mapSeq fun xs => xs.push Value.none)) (a := S) (Obj.mapSeq fun xs => xs.pop)
 exact ⟨b.1.trans a.1, fun c hc => (b.2 c hc).trans (a.2 c hc)⟩
theorem extend_revT {R : Result → Shared → Prop} (hh : A.handled = none) {I : Addr} {x : Str} {t : Tok} (hit : IsRevT s.heap I x t ((x.length : Int) - 1)) (S : Addr) (res : Value) (c0 : Nat) (hS : s.heap.get? S = some { cls := .type "list", dict := none, data := .seq #[] c0, slots := #[] })
   (hn : x.length ≤ sizeLine)
   (hR : ∀ h' tk acc' c', (∀ b o, b ≠ S → b ≠ I → s.heap.get? b = some o → h'.get? b = some o) → h'.get? S = some { cls := .type "list", dict := none, data := .seq acc' c', slots := #[] } →
     ItemsOf (fun i v => ∃ c tk, x.cps[x.length - 1 - i]? = some c ∧ v = .str ⟨#[c]⟩ tk) acc' x.length → R (.ok (.ret res)) { s with heap := h', toks := tk }) :
   wpAny (model prog w) A.in1 (Builtin.List.listExtendWith (.ref S) (.ref I) res)
     (fun fin s' => match fin with | .done f => R (.ok f) s' | .again c' => c'.quiet = true ∧ codeAny (model prog w) A c' R s') (fun e s' => R (.error e) s') s := by
 have hSI : S ≠ I := fun e => by
   subst e
   obtain ⟨o, ho, hc, _⟩ := hit
   rw [hS] at ho; cases ho
   exact absurd (show Value.type "list" = Value.type "reversed" from hc) (by decide)
 have hSf : S ∉ [I] := fun hm => hSI (List.mem_singleton.mp hm)
 have hf : (x.length : Int) < 2 ^ 63 := by
   have : sizeLine < 2 ^ 63 := by decide +kernel
   omega
 unfold Builtin.List.listExtendWith
 refine wpAny_bind (wpAny_typeOf hit.typeIs ?_)
 have h1 : Builtin.List.listSameRef (.ref S) (.ref I) = false := by simp [Builtin.List.listSameRef, hSI]
 have h2 : (Value.type "reversed" == Value.type "list") = false := by decide
 have h3 : (Value.type "reversed" == Value.type "tuple") = false := by decide
 simp only [h1, h2, h3, Bool.or_false, Bool.false_eq_true, if_false]
 refine wpAny_bind (rv_pyIter hit ?_)
 refine wpAny_bind (wpAny_holding (hint_revT hn hit fun b tk => ?_))
 have go : ∀ (h' : Heap) (tk : Nat) (c1 : Nat), h'.get? S = some { cls := .type "list", dict := none, data := .seq #[] c1, slots := #[] } → (∀ b o, b ≠ S → s.heap.get? b = some o → h'.get? b = some o) →
     wpAny (model prog w) A.in1 (again (.builtin "list.extend.loop" ⟨[.ref S, .ref I, res], []⟩))
       (fun fin s' => match fin with | .done f => R (.ok f) s' | .again c' => c'.quiet = true ∧ codeAny (model prog w) A c' R s') (fun e s' => R (.error e) s') { s with heap := h', toks := tk } := fun h' tk c1 hS1 hk => by
   refine wpAny_pure ⟨plainId_quiet F.plain_extend_loop _, codeAny_extend_loopS (walks_revT (prog := prog) (w := w) (A := A.in1) hh I x t hf).toS hn _ hSf _ x.length 0 _ _ _ rfl (Nat.zero_le _) ⟨Nat.zero_le _, ?_⟩ hS1 (ItemsOf.nil _) fun s' acc' c' hm hS' hacc => ?_⟩
   · have e0 : (x.length : Int) - 1 - ((0 : Nat) : Int) = (x.length : Int) - 1 := by omega
     rw [e0]
     exact hit.at fun o e => hk _ o (Ne.symm hSI) e
   · rw [Moved.eq_with hm]
     refine hR s'.heap s'.toks acc' c' (fun b ob hb hb2 e => hm.heap b ob (fun hmem => ?_) (hk b ob hb e)) hS' hacc
     rcases List.mem_cons.mp hmem with e' | hmem
     · exact hb e'
     · exact hb2 (List.mem_singleton.mp hmem)
 refine wpAny_ite_split (fun _ => ?_) (fun _ => ?_)
 · refine wpAny_bind (wpAny_rule ?_)
   exact wpAny_bind (touch hS fun h' c' hS1 hs => go h' tk c' hS1 fun b o hb e => (hs.2 b hb).trans e)
 · exact go s.heap tk c0 hS fun _ _ _ e => e
theorem list_init_revT {R : Result → Shared → Prop} (hh : A.handled = none) {I : Addr} {x : Str} {t : Tok} (hit : IsRevT s.heap I x t ((x.length : Int) - 1)) (S : Addr) (hS : s.heap.get? S = some { cls := .type "list", data := .seq #[] })
   (hn : x.length ≤ sizeLine)
   (hR : ∀ h' tk acc' c', (∀ b o, b ≠ S → b ≠ I → s.heap.get? b = some o → h'.get? b = some o) → h'.get? S = some { cls := .type "list", dict := none, data := .seq acc' c', slots := #[] } →
     ItemsOf (fun i v => ∃ c tk, x.cps[x.length - 1 - i]? = some c ∧ v = .str ⟨#[c]⟩ tk) acc' x.length → R (.ok (.ret .none)) { s with heap := h', toks := tk }) :
   wpAny (model prog w) A.in1 (Builtin.«list.__init__» ⟨[.ref S, .ref I], []⟩)
     (fun fin s' => match fin with | .done f => R (.ok f) s' | .again c' => c'.quiet = true ∧ codeAny (model prog w) A c' R s') (fun e s' => R (.error e) s') s := by
 have hSI : S ≠ I := fun e => by
   subst e
   obtain ⟨o, ho, hc, _⟩ := hit
   rw [hS] at ho; cases ho
   exact absurd (show Value.type "list" = Value.type "reversed" from hc) (by decide)
 show wpAny _ _ (do let old ← Builtin.List.listItems (.ref S); Builtin.List.listUpdate (.ref S) (fun _ => #[]); letGo old.toList.reverse; Builtin.List.listExtendWith (.ref S) (.ref I) .none) _ _ s
 refine wpAny_bind ?_
 unfold Builtin.List.listItems
 refine wpAny_bind (wpAny_seqItems hS rfl (wpAny_pure ?_))
 show wpAny _ _ (updateSeq S (fun _ => #[]) >>= fun _ => letGo (#[] : Array Value).toList.reverse >>= fun _ => Builtin.List.listExtendWith (.ref S) (.ref I) .none) _ _ s
 refine wpAny_bind (wpAny_updateSeq hS rfl ?_)
 have hS₂ := Heap.get?_update_self (Obj.mapSeq (fun _ => (#[] : Array Value))) hS rfl
 have oth : ∀ b o, b ≠ S → s.heap.get? b = some o → (s.heap.update S (Obj.mapSeq (fun _ => (#[] : Array Value)))).get? b = some o :=
   fun b o hb e => (Heap.get?_update_other _ _ (Ne.symm hb)).trans e
 refine wpAny_bind (wpAny_letGo ?_)
 refine extend_revT hh (hit.at fun o e => oth _ o (Ne.symm hSI) e) S .none _ hS₂ hn fun h' tk acc' c' hk hS' hacc => ?_
 exact hR h' tk acc' c' (fun b o hb hb2 e => hk b o hb hb2 (oth b o hb e)) hS' hacc
theorem call_list_revT {Q : Value → Shared → Prop} (hh : A.handled = none) {I : Addr} {x : Str} {t : Tok} (hit : IsRevT s.heap I x t ((x.length : Int) - 1)) (hn : x.length ≤ sizeLine)
   (hQ : ∀ h' tk acc' c', (∀ b o, b ≠ I → s.heap.get? b = some o → h'.get? b = some o) →
     h'.get? s.heap.objs.size = some { cls := .type "list", dict := none, data := .seq acc' c', slots := #[] } → ItemsOf (fun i v => ∃ c tk, x.cps[x.length - 1 - i]? = some c ∧ v = .str ⟨#[c]⟩ tk) acc' x.length → Q (.ref s.heap.objs.size) { s with heap := h', toks := tk }) :
   wpAny (model prog w) A (call (.type "list") [.ref I]) Q E s := by
 refine callType_codes (Q₁ := fun obj s₁ => obj = .ref s.heap.objs.size ∧ s₁ = { s with heap := s.heap.push { cls := .type "list", data := .seq #[] } }) F.called_list (F.typeCall_list_1 _) F.entry_list_init
   (code_list_new _ ⟨rfl, rfl⟩) fun obj s₁ h₁ => ?_
 obtain ⟨rfl, rfl⟩ := h₁
 have hS : (s.heap.push { cls := .type "list", data := .seq #[] }).get? s.heap.objs.size = some { cls := .type "list", data := .seq #[] } := Heap.get?_push_size _ rfl
 refine ⟨⟨_, hS, rfl⟩, F.args_list_init_2 _ _, list_init_revT (A := A.in1) hh (hit.at fun o e => Heap.get?_push_of_some _ e) _ hS hn fun h' tk acc' c' hk hS' hacc => ?_⟩
 exact ⟨rfl, hQ h' tk acc' c' (fun b o hb e => hk b o (Nat.ne_of_lt (Heap.lt_size e)) hb (Heap.get?_push_of_some _ e)) hS' hacc⟩
end
section
variable {X : Cx} {e : Expr} {te : TE}
theorem items_revT {x : Str} {acc : Array Value} (h : ItemsOf (fun i v => ∃ c tk, x.cps[x.length - 1 - i]? = some c ∧ v = Value.str ⟨#[c]⟩ tk) acc x.length) : Vals (x.cps.toList.reverse.map fun c => V.str (sg c)) acc.toList := by
 have key : ∀ (cs : List Nat) (us : List Value), us.length = cs.length → (∀ (i : Nat) (u : Value), us[i]? = some u → ∃ (c : Nat) (tk : Tok), cs[i]? = some c ∧ u = Value.str ⟨#[c]⟩ tk) → Vals (cs.map fun c => V.str (sg c)) us := by
   intro cs
   induction cs with
   | nil => intro us hl _; rw [List.length_eq_zero_iff.mp hl]; exact .nil
   | cons c cs ih =>
     intro us hl hp
     cases us with
     | nil => exact absurd hl (by simp)
     | cons u us =>
       obtain ⟨c', tk, hc, hu⟩ := hp 0 u rfl
       cases hc
       exact .cons ⟨tk, hu⟩ (ih us (by simpa using hl) fun i u' hi => hp (i + 1) u' hi)
 have hz := h.1
 have hx : x.length = x.cps.toList.length := by rw [Array.length_toList]; rfl
 refine key _ _ (by rw [Array.length_toList, hz, List.length_reverse, hx]) fun i u hu => ?_
 have hu' : acc[i]? = some u := by simpa using hu
 obtain ⟨c, tk, hc, rfl⟩ := h.2 i u hu'
 have hi : i < x.cps.toList.length := by
   have := (Array.getElem?_eq_some_iff.mp hu').1
   omega
 refine ⟨c, tk, ?_, rfl⟩
 rw [List.getElem?_reverse hi, ← hx]
 simpa using hc
def tListRevT (ta : TA) : TE := fun σ H Q => ta σ H fun vs H1 => ∃ x : Str, vs = [.str x] ∧ x.length ≤ sizeLine ∧ ∀ l, H1 l = none → Q (.ref l) (upd H1 l (.lst (x.cps.toList.reverse.map fun c => V.str (sg c))))
theorem pe_listrevT {p1 p2 pos1 pos2 : Pos} {ta : TA} (hc : X.calm = true) (hg : Gl X "list") (hm : X.mg "list" = none) (hg2 : Gl X "reversed") (hm2 : X.mg "reversed" = none) (ha : PA X [e] ta)
   (h1 : starEach [.Call (.Name "reversed" p2) [e] [] pos2] X.env = [(false, eval (.Call (.Name "reversed" p2) [e] [] pos2) X.env)] := by rfl) (h2 : starEach [e] X.env = [(false, eval e X.env)] := by rfl) :
   PE X (.Call (.Name "list" p1) [.Call (.Name "reversed" p2) [e] [] pos2] [] pos1) (tListRevT ta) := by
 intro pins s σ H Q I h
 refine wpAny_Call_Name_kw (ld_blt I hg hm boot_list ?_ (by decide) (by decide))
 refine PyProof.Rows.callWith_type1 ?_ h1 rfl
 rw [h1]
 show wpAny _ _ (spliced [(false, eval (.Call (.Name "reversed" p2) [e] [] pos2) X.env)]) _ _ s
 refine Calls.spliced_cons ?_
 refine wpAny_Call_Name_kw (ld_blt I hg2 hm2 boot_reversed ?_ (by decide) (by decide))
 refine PyProof.Rows.callWith_type1 (thn (ha pos2 pins s σ H _ I h) fun us s1 ⟨vs, H1, I1, r1, q1⟩ => ?_) h2 rfl
 obtain ⟨x, rfl, hz, q⟩ := q1
 obtain ⟨u, rfl, tu, rfl⟩ := vals1 r1
 have hfit : ¬ (x.length : Int) ≥ 2 ^ 63 := by
   have : sizeLine < 2 ^ 63 := by decide +kernel
   omega
 refine call_rev_text hfit ?_
 refine Calls.spliced_nil ?_
 have hnew : s1.heap.objs.size ≤ s1.heap.objs.size := Nat.le_refl _
 have I2 : Inv X pins σ H1 { s1 with heap := s1.heap.push (rvObj x tu ((x.length : Int) - 1)), toks := s1.toks + 1 + 1 } := I1.kept (t' := s1.toks + 1 + 1) fun b o e => Heap.get?_push_of_some _ e
 have f0 := I1.fpOk hnew (I1.hok.fresh hnew)
 refine call_list_revT (I.ok.hd hc) ⟨_, Heap.get?_push_size _ rfl, rfl, rfl⟩ hz fun h' tk acc' c' hk hS hacc => ?_
 have hrev := items_revT hacc
 have hDn : H1 (s1.heap.objs.size + 1) = none := I1.hok.fresh (Nat.le_succ _)
 have e1 : (s1.heap.push (rvObj x tu ((x.length : Int) - 1))).objs.size = s1.heap.objs.size + 1 := Heap.size_push ..
 have hlen : (x.cps.toList.reverse.map fun c => V.str (sg c)).length ≤ sizeLine := by rw [List.length_map, List.length_reverse, Array.length_toList]; exact hz
 have I3 := I2.laid (a := (s1.heap.push (rvObj x tu ((x.length : Int) - 1))).objs.size) (o := .lst (x.cps.toList.reverse.map fun c => V.str (sg c))) (t' := tk)
   (h' := (s1.heap.push (rvObj x tu ((x.length : Int) - 1))).push { cls := .type "list", dict := none, data := .seq acc' c', slots := #[] }) (fun b o e => Heap.get?_push_of_some _ e) (Nat.le_refl _)
   ⟨hlen, acc'.toList, c', hrev, Heap.get?_push_size _ rfl⟩
 have f1 : FpOk X pins (upd H1 (s1.heap.push (rvObj x tu ((x.length : Int) - 1))).objs.size (.lst (x.cps.toList.reverse.map fun c => V.str (sg c)))) s1.heap.objs.size := I1.fpOk hnew (by rw [upd_ne (by rw [e1]; exact Nat.ne_of_lt (Nat.lt_succ_self _))]; exact f0.1)
 have I4 := I3.turned (t' := tk) (h' := h') (it := s1.heap.objs.size) (fun b o hb e => ?_) f1.1 f1.2.1 f1.2.2.2.1 f1.2.2.2.2.1 f1.2.2.2.2.2
 · exact ⟨.ref _, _, I4, rfl, q _ (by rw [e1]; exact hDn)⟩
 · rcases Heap.get?_push_cases e with ⟨z, z2⟩ | z
   · rw [z, z2]
     exact hS
   · exact hk b o hb z
end
end L2

set_option Elab.async false
set_option linter.all false
set_option maxRecDepth 100000
set_option maxHeartbeats 4000000
namespace L2
open PySem PySem.Spec PyProof.Rows
section
variable {prog : Program} {w : World} {A : Around} {E : Value → Shared → Prop} {s : Shared}
end
def revS (z : Str) : Str := ⟨z.cps.toList.reverse.toArray⟩
theorem op_isNotB {X : Cx} : OpR X (compareOp .IsNot) (fun x y H Q => ∃ a b, x = .bl a ∧ y = .bl b ∧ Q (.bl (!(a == b))) H) := by
 intro pins s σ H x y v u Q I rx ry h
 obtain ⟨a, b, rfl, rfl, q⟩ := h
 cases rx
 cases ry
 refine wpAny_isNot_plain (by cases a <;> cases b <;> rfl) (fin_bl I q ?_)
 cases a <;> cases b <;> rfl
end L2

set_option Elab.async false
set_option linter.all false
set_option maxRecDepth 100000
set_option maxHeartbeats 4000000
namespace L2
open PySem PySem.Spec PyProof.Rows
end L2

set_option Elab.async false
set_option linter.all false
set_option maxRecDepth 100000
set_option maxHeartbeats 4000000
namespace L2
open PySem PySem.Spec PyProof.Rows
def FlAt (h₀ : Heap) (H : Hp) (h : Heap) (e : Addr) (vs : Array Value) : Option Value → Prop
 | none => vs[1]? = some .none ∧ vs[2]? = some .none
 | some v => ∃ T oT ts, vs[1]? = some (.ref T) ∧ H T = none ∧ h₀.get? T = none ∧ T ≠ e ∧ h.get? T = some oT ∧ oT.data = .fields ts ∧ ts[3]? = some v ∧ vs[2]? = some .none
structure Exc (h₀ : Heap) (H : Hp) (h : Heap) (e : Addr) (C : Value) (od : Option Addr) (fl : Option Value) : Prop where
 fr : H e = none
 nw : h₀.get? e = none
 tr : ∃ oe vs, h.get? e = some oe ∧ oe.cls = C ∧ oe.dict = od ∧ oe.data = .fields vs ∧ FlAt h₀ H h e vs fl
section
variable {M : Model} {A : Around} {E : Value → Shared → Prop} {s : Shared} {base : Heap} {env : Env} {outer : List Env} {L e : Addr} {Q : Unit → Shared → Prop}
end

section
variable {M : Model} {A : Around} {E : Value → Shared → Prop} {s : Shared} {base h₀ : Heap} {H : Hp} {env : Env} {outer : List Env} {L e : Addr} {C : Value} {od : Option Addr} {Q : Unit → Shared → Prop}
end

section
variable {X : Cx} {pins : List (Addr × Obj)} {σ σ' : St} {H H' : Hp} {s s1 : Shared}
def CXe (P : Program) (w : World) : CXT := fun outer H s E e s' => ∃ ea C od H', e = .ref ea ∧ s'.os = s.os ∧ AllBare s'.gens ∧ Un (frs outer) [] H H' s.heap s'.heap ∧ HOk P w H' s'.heap ∧ Exc s.heap H' s'.heap ea C od (some .none) ∧ E C od H'

end

section
variable {P : Program} {w : World} {K : PySem.W.Frag} {mg : Str → Option Value} {base : Heap} {N : List Str} {qual : Str} {scope : Scope} {f : Addr} {cd : Value} {A : Around} {outer : List Env} {s : Shared} {H : Hp} {E : XK}
theorem Fun.okE {x : Str} {st : Stmt} {fd : FuncData} {ps : List Str} {k : Nat} {sp : Sp} (F : Fun K x qual st f fd) (S : FnScope N ps (defScope st)) (len : ∀ vs H Q E, sp vs H Q E → vs.length = ps.length)
   (hbody : ∀ (cdv : Value) (A : Around) (outer : List Env) (s : Shared) (H : Hp) (vs : List V) (Q : VK) (E : XK), Room k (A.deeper (envOfC qual (defScope st) s.heap.objs.size f cdv)) → sp vs H Q E →
     ∃ t, PSs (cxOf (CXe P w) P w K mg base N qual (defScope st) f cdv A outer s H E) (defBody st) t ∧ t { nx := fun _ H' => Q .non H', rt := Q } (start N vs) H) : FnOk P w K mg base (CXe P w) (k + 1) f fd ps sp := by
 obtain ⟨oc, od, kV, doc, pm, an, cdv, ct, osl, rfl, lk, hcd⟩ := F.ex
 exact fn_of lk hcd S len fun A outer s H vs Q E hr hsp => hbody cdv A outer s H vs Q E hr hsp
end
end L2

set_option Elab.async false
set_option linter.all false
set_option maxRecDepth 100000
set_option maxHeartbeats 4000000
namespace L2
open PySem PySem.Spec PyProof.Rows

theorem ObjOk.ex {P : Program} {w : World} {H : Hp} {h : Heap} {a : Addr} {o : HO} (x : ObjOk P w H h a o) : ∃ u, h.get? a = some u := by
 cases o with
 | lst xs => obtain ⟨_, _, _, _, e⟩ := x; exact ⟨_, e⟩
 | tup xs => obtain ⟨_, _, _, ob, e, _⟩ := x; exact ⟨_, e⟩
 | dK kvs => obtain ⟨_, _, _, _, o, _, _, e, _⟩ := x; exact ⟨_, e⟩
 | dT kvs => obtain ⟨_, _, _, _, o, _, _, e, _⟩ := x; exact ⟨_, e⟩
 | set S n => obtain ⟨o, _, _, _, e, _⟩ := x; exact ⟨_, e⟩
 | ins C dx fs => obtain ⟨_, _, _, e, _⟩ := x; exact ⟨_, e⟩
 | own y => exact x
 | xd fs => obtain ⟨_, ⟨_, _, _, e, _⟩, _⟩ := x; exact ⟨_, e⟩
 | rng lo hi => obtain ⟨_, _, _, e⟩ := x; exact ⟨_, e⟩
 | frz ob u => obtain ⟨e, _⟩ := x; exact ⟨_, e⟩
 | tbl ps => exact ⟨_, x⟩
 | met f y => exact ⟨_, x⟩
 | ext φ => exact x.2.1
theorem HOk.none {P : Program} {w : World} {H : Hp} {h : Heap} {a : Addr} (x : HOk P w H h) (e : h.get? a = Option.none) : H a = Option.none := by
 cases q : H a with
 | none => rfl
 | some u => obtain ⟨o, z⟩ := (x a u q).ex; rw [e] at z; cases z
section
variable {K : PySem.W.Frag} {h : Heap} {C N : Addr} {bm : List Value} {ini : Option Value}
end

section
variable {P : Program} {w : World} {K : PySem.W.Frag} {mg : Str → Option Value} {base : Heap} {N0 : List Str} {qual : Str} {scope : Scope} {f : Addr} {cd : Value} {A : Around} {outer : List Env} {s0 : Shared} {H0 : Hp} {E : XK}
end

section
abbrev TEx := St → Hp → VK → XK → Prop
def XP (X : Cx) (pins : List (Addr × Obj)) (σ : St) (Ex : XK) (e : Value) (s' : Shared) : Prop :=
 ∃ ea C od H' s2 H2, e = .ref ea ∧ Inv X pins σ H2 s2 ∧ Inv X pins σ H' s' ∧ (∀ b o, s2.heap.get? b = some o → ∃ o', s'.heap.get? b = some o') ∧ Exc s2.heap H' s'.heap ea C od (some .none) ∧ Ex C od H'
variable {X : Cx} {k : Nat} {f C : Addr} {fd : FuncData} {ps : List Str} {sp : Sp} {dvs : List V} {ds : List Value} {x m : Str} {p pos apos : Pos} {e o : Expr} {es : List Expr} {ta : TE} {t : TA} {te : TEx}
end
end L2

set_option Elab.async false
set_option linter.all false
set_option maxRecDepth 100000
set_option maxHeartbeats 4000000
namespace L2
open PySem PySem.Spec PyProof.Rows
section
variable {X : Cx} {pins : List (Addr × Obj)} {σ σ' : St} {H H' : Hp} {s s1 : Shared}
end

section
variable {M : Model} {A : Around} {E : Value → Shared → Prop} {K : PySem.W.Frag} {s : Shared} {C D N N' ea : Addr} {bm bm' : List Value} {ini ini' : Option Value} {Q : Bool → Shared → Prop}
end
abbrev Cx.han (X : Cx) (ea : Addr) : Cx := { X with A := X.A.mark (some (.ref ea)), calm := false, xe := fun _ _ => False }
section
variable {X : Cx} {pins : List (Addr × Obj)} {σ : St} {H : Hp} {s : Shared} {ea : Addr}
theorem Cx.Ok.han (ok : X.Ok) (ea : Addr) : (X.han ea).Ok :=
 ⟨ok.mod, ok.kind, ok.glob, ok.blt, ok.above, ok.inj, ok.has, ok.cab, (fun z => nomatch (show false = true from z)), ok.frames, ok.stk, ok.exf, ok.bs, ok.bsz, ok.noex, ok.exfs, ok.funs, ok.frf⟩
theorem Inv.han (I : Inv X pins σ H s) (ea : Addr) : Inv (X.han ea) pins σ H s := ⟨I.ok.han ea, I.os, I.bare, I.base, I.loc, I.cell, I.free, I.freeC, I.pin, I.hok, I.len⟩
end
end L2

set_option Elab.async false
set_option linter.all false
set_option maxRecDepth 100000
set_option maxHeartbeats 1000000
namespace L2
open PySem PySem.Spec PyProof.Rows PySem.Builtin PySem.Builtin.ObjectAttr
section
variable {P : Program} {w : World} {A : Around} {E : Value → Shared → Prop} {s : Shared} {K : PySem.W.Frag} {C N x : Addr} {bm : List Value} {ini : Option Value} {f : Str} {v : Value} {ox : Obj} {vs : Array Value}
end
end L2

set_option Elab.async false
set_option linter.all false
set_option maxRecDepth 100000
set_option maxHeartbeats 1000000
namespace L2
open PySem PySem.Spec PyProof.Rows PySem.Builtin PySem.Builtin.ObjectAttr

section
variable {P : Program} {w : World} {A : Around} {E : Value → Shared → Prop} {K : PySem.W.Frag} {C N fI : Addr} {bm : List Value} {us : List Value}
end
end L2

set_option Elab.async false
set_option linter.all false
set_option maxRecDepth 100000
set_option maxHeartbeats 1000000
namespace L2
open PySem PySem.Spec PyProof.Rows PySem.Builtin PySem.Builtin.ObjectAttr
section
variable {X : Cx} {pins : List (Addr × Obj)} {σ : St} {H : Hp} {s : Shared} {a : Addr} {φ : Heap → Prop}
end
section
variable {X : Cx} {e : Expr} {te : TE} {pos : Pos}
end

section
variable {X : Cx} {C N D fI : Addr} {bm : List Value} {ini : Option Value} {x f : Str} {np ap pos cpos pos' : Pos} {e o value a1 a2 : Expr} {es : List Expr} {t : TA} {ta tv te : TE}
end

section
variable {P : Program} {w : World} {K : PySem.W.Frag} {mg : Str → Option Value} {base : Heap} {N0 : List Str} {qual : Str} {scope : Scope} {f : Addr} {cd : Value} {A : Around} {outer : List Env} {s0 : Shared} {H0 : Hp} {E : XK}
end
end L2

set_option Elab.async false
set_option linter.all false
set_option maxRecDepth 100000
set_option maxHeartbeats 1000000
namespace L2
open PySem PySem.Spec PyProof.Rows
structure RoomM (k : Nat) (A : Around) : Prop where
 dp : A.depth + 3 * k + 5 < recursionLimit
 un : A.units + 16 * k + 200 < cLine
theorem Room.m {k : Nat} {A : Around} (r : Room k A) : RoomM k A := ⟨r.dp, r.un⟩
theorem RoomM.mark {k : Nat} {A : Around} (r : RoomM k A) (h : Option Value) : RoomM k (A.mark h) := ⟨r.dp, r.un⟩
theorem RoomM.mono {j k : Nat} {A : Around} (r : RoomM k A) (h : j ≤ k) : RoomM j A := ⟨by have := r.dp; omega, by have := r.un; omega⟩
theorem RoomM.deeper {k : Nat} {A : Around} (r : RoomM (k + 1) A) (env : Env) : RoomM k (A.deeper env) :=
 ⟨by have := r.dp; show A.depth + 1 + 3 * k + 5 < _; omega, by have := r.un; show A.units + 3 + 16 * k + 200 < _; omega⟩
theorem RoomM.units0 {k : Nat} {A : Around} (r : RoomM k A) : A.units < cLine := by have := r.un; omega
theorem RoomM.hu {k : Nat} {A : Around} (r : RoomM k A) : A.units + 1 < cLine := by have := r.un; omega
section
variable {P : Program} {w : World} {K : PySem.W.Frag} {mg : Str → Option Value} {base : Heap}
theorem FunD.okE {x qual : Str} {st : Stmt} {f : Addr} {fd : FuncData} {dV : Value} {N ps : List Str} {k : Nat} {sp : Sp} (F : FunD K x qual st f fd dV) (S : FnScope N ps (defScope st)) (len : ∀ vs H Q E, sp vs H Q E → vs.length = ps.length)
   (hbody : ∀ (cdv : Value) (A : Around) (outer : List Env) (s : Shared) (H : Hp) (vs : List V) (Q : VK) (E : XK), Room k (A.deeper (envOfC qual (defScope st) s.heap.objs.size f cdv)) → sp vs H Q E →
     ∃ t, PSs (cxOf (CXe P w) P w K mg base N qual (defScope st) f cdv A outer s H E) (defBody st) t ∧ t { nx := fun _ H' => Q .non H', rt := Q } (start N vs) H) : FnOk P w K mg base (CXe P w) (k + 1) f fd ps sp := by
 obtain ⟨oc, od, kV, doc, pm, an, cdv, ct, osl, rfl, lk, hcd⟩ := F.ex
 exact fn_of lk hcd S len fun A outer s H vs Q E hr hsp => hbody cdv A outer s H vs Q E hr hsp
end
section
variable {X : Cx} {k : Nat} {f : Addr} {fd : FuncData} {ps : List Str} {sp : Sp} {x : Str} {p pos : Pos} {e : Expr} {es : List Expr} {t : TA}
end
end L2

set_option Elab.async false
set_option linter.all false
set_option maxRecDepth 100000
set_option maxHeartbeats 4000000
namespace My
open PySem L2
def top (i : Nat) : Stmt := PySem.Challenge.pw_dialecthall_k76_sole_texts_looked_at.main.body.getD i (.Pass ⟨0, 0, 0, 0⟩)
abbrev s_is_printable : Stmt := top 4
abbrev s_has_signs_alone : Stmt := top 5
abbrev s_is_text : Stmt := top 6
abbrev s_are_unlike_signs : Stmt := top 13
abbrev s_Dialect___init__ : Stmt := inClass (top 14) 0
abbrev s_Dialect_told : Stmt := inClass (top 14) 1
abbrev s_dialect_of : Stmt := top 15
abbrev s_step_at_beginning : Stmt := top 17
abbrev s_step_in_plain : Stmt := top 18
abbrev s_step_within : Stmt := top 19
abbrev s_step_behind : Stmt := top 20
abbrev s_step_in_doubt : Stmt := top 21
abbrev s_step_freed : Stmt := top 22
abbrev s_Turn___init__ : Stmt := inClass (top 23) 0
abbrev s_Turn_step : Stmt := inClass (top 23) 1
abbrev s_check_text : Stmt := top 25
abbrev s_walk : Stmt := top 26
abbrev s_end_of : Stmt := top 27
abbrev s_table_of : Stmt := top 28
abbrev s_reading_of : Stmt := top 29
abbrev s_is_sole : Stmt := top 31
abbrev s__law_cell_at : Stmt := top 33
abbrev s__law_mixed : Stmt := top 34
abbrev s__law_number : Stmt := top 35
abbrev s__law_some : Stmt := top 36
abbrev s__law_menus : Stmt := top 37
abbrev s__law_told : Stmt := top 38
abbrev s__law_made : Stmt := top 39
abbrev s__law_open : Stmt := top 41
abbrev s__law_step : Stmt := top 40
abbrev s__law_near : Stmt := top 42
abbrev s__law_others : Stmt := top 43
abbrev s__law_signs : Stmt := top 44
abbrev s__law_tokens : Stmt := top 45
abbrev s__law_led : Stmt := top 46
abbrev s__law_reads : Stmt := top 47
abbrev s__law_sole : Stmt := top 48
abbrev s__law_copy : Stmt := top 49
abbrev s__law_text : Stmt := top 50
abbrev s__law_table_of : Stmt := top 51
abbrev s_law : Stmt := top 52

theorem same_new {H : Hp} {l : Addr} {o : HO} (h : H l = none) : Same H (upd H l o) := fun b u e => by rw [upd_ne (ne_of_none e h)]; exact e
theorem same_set {H H2 : Hp} {l : Addr} {o : HO} (h : H l = none) (s : Same H H2) : Same H (upd H2 l o) := fun b u e => by rw [upd_ne (ne_of_none e h)]; exact s b u e
theorem gyes {i : Nat} {x : V} {σ : St} {H : Hp} {A B : St → Hp → Prop} (h : A (σ.set i (some x)) H) : gName i x σ H (fun τ2 H2 => tYes τ2 H2 fun b H3 => if b = true then A τ2 H3 else B τ2 H3) := by
 show (if true = true then A (σ.set i (some x)) H else B (σ.set i (some x)) H)
 exact iteT h
theorem iteDn {p A B : Prop} [Decidable p] (hp : ¬ p) (h : B) : if decide p = true then A else B := by rw [if_neg (by simpa using hp)]; exact h
theorem iteNE {A B : Prop} {b : Bool} (hb : b = true) (h : B) : if (!b) = true then A else B := by rw [hb]; exact iteF h
theorem at_int {α : Type} {xs : List α} {i : Int} (h0 : 0 ≤ i) (h : i < xs.length) : ∃ c, atI xs i = some c ∧ c ∈ xs := by
 obtain ⟨j, rfl⟩ : ∃ j : Nat, i = j := ⟨i.toNat, by omega⟩
 have hj : j < xs.length := by omega
 exact ⟨xs[j], atI_nat (by simp [hj]), List.getElem_mem hj⟩
def Pn (c : Nat) : Prop := 32 ≤ c ∧ c ≤ 126 ∧ c ≠ 37
instance (c : Nat) : Decidable (Pn c) := by unfold Pn; exact inferInstance
structure Sg (z : Str) : Prop where
 nd : z.cps.toList.Nodup
 pr : ∀ c ∈ z.cps.toList, Pn c
def Mn (z : Str) : Prop := 0 < z.length ∧ z.length ≤ 100 ∧ ∀ c ∈ z.cps.toList, Pn c
instance (z : Str) : Decidable (Mn z) := by unfold Mn; exact inferInstance
structure Gd (p q f : Str) : Prop where
 gp : Sg p
 gq : Sg q
 gf : Sg f
 p1 : 1 ≤ p.length
 p3 : p.length ≤ 3
 q2 : q.length ≤ 2
 f2 : f.length ≤ 2
def seven (p q f : Str) (b1 b2 b3 b4 : Bool) : List V := [.str p, .str q, .str f, .bl b1, .bl b2, .bl b3, .bl b4]
def dfl (p q f : Str) (b1 b2 b3 b4 : Bool) : List (Str × V) := [("parts", .str p), ("quotes", .str q), ("frees", .str f), ("twin", .bl b1), ("wide", .bl b2), ("thin", .bl b3), ("stray", .bl b4)]
def away (t : Str) (c : Nat) : Bool := !(!(Builtin.Str.occurrences t (sg c) 0 t.length 1).isEmpty)
theorem away_iff (t : Str) (c : Nat) : away t c = true ↔ c ∉ t.cps.toList := by
 unfold away
 have e : (!(Builtin.Str.occurrences t (sg c) 0 t.length 1).isEmpty) = decide (c ∈ t.cps.toList) := StrLaws.found_one t c
 rw [e]
 simp
theorem sg_add {z : Str} {c : Nat} (h : Sg z) (hc : Pn c) (ha : away z c = true) : Sg (z ++ sg c) := by
 have e : (z ++ sg c).cps.toList = z.cps.toList ++ [c] := by
   show (z.cps ++ #[c]).toList = _
   simp
 have hn := (away_iff z c).mp ha
 refine ⟨?_, ?_⟩
 · rw [e, List.nodup_append]
   refine ⟨h.nd, by simp, fun a ha b hb => ?_⟩
   rw [List.mem_singleton.mp hb]
   intro q; exact hn (q ▸ ha)
 · rw [e]
   intro d hd
   rcases List.mem_append.mp hd with z' | z'
   · exact h.pr d z'
   · rw [List.mem_singleton.mp z']; exact hc
theorem sg_nil : Sg (Str.ofString "") := by
 have e : (Str.ofString "").cps.toList = [] := by decide +kernel
 refine ⟨?_, ?_⟩
 · rw [e]; exact List.nodup_nil
 · rw [e]; intro c hc; cases hc
theorem app_len (a b : Str) : (a ++ b).length = a.length + b.length := by
 show (a.cps ++ b.cps).size = _
 rw [Array.size_append]; rfl

theorem sqt_mono {K : PySem.W.Frag} {H H' : Hp} {a : Addr} {xs : List V} (e : Same H H') (h : SqT K H a xs) : SqT K H' a xs := by
 rcases h with (h | ⟨o, h⟩) | h
 · exact .inl (.inl (e _ _ h))
 · exact .inl (.inr ⟨o, e _ _ h⟩)
 · exact .inr h
theorem iteNf {A B : Prop} {b : Bool} (hb : b = false) (h : A) : if (!b) = true then A else B := by rw [hb]; exact iteT h
theorem iteBt {A B : Prop} {b : Bool} (hb : b = true) (h : A) : if b = true then A else B := by rw [hb]; exact iteT h
theorem iteBf {A B : Prop} {b : Bool} (hb : b = false) (h : B) : if b = true then A else B := by rw [hb]; exact iteF h
def inS (c : Nat) (z : Str) : Bool := !(Builtin.Str.occurrences z (sg c) 0 z.length 1).isEmpty
def isS (a b : Str) : Bool := decide (V.str a = V.str b)
theorem isS_eq {a b : Str} (h : isS a b = true) : a = b := by have := of_decide_eq_true h; cases this; rfl
theorem isS_self (a : Str) : isS a a = true := decide_eq_true rfl
inductive Res where
 | go (k w u : Str)
 | flt (w : Str)
def RelR (K : PySem.W.Frag) (H : Hp) (v : V) : Res → Prop
 | .go k w u => isS k (Str.ofString "fault") = false ∧ ∃ a b, v = .ref a ∧ SqT K H a [.str k, .ref b] ∧ SqT K H b [.str w, .str u]
 | .flt w => ∃ a, v = .ref a ∧ SqT K H a [.str (Str.ofString "fault"), .str w]
theorem RelR.mono {K : PySem.W.Frag} {H H' : Hp} {v : V} {r : Res} (e : Same H H') (h : RelR K H v r) : RelR K H' v r := by
 cases r with
 | go k w u => obtain ⟨hk, a, b, e1, e2, e3⟩ := h; exact ⟨hk, a, b, e1, sqt_mono e e2, sqt_mono e e3⟩
 | flt w => obtain ⟨a, e1, e2⟩ := h; exact ⟨a, e1, sqt_mono e e2⟩
theorem mk_go {K : PySem.W.Frag} {H : Hp} {Q : VK} {k w u : Str} {r : Res} (e : r = .go k w u) (hk : isS k (Str.ofString "fault") = false) (h : ∀ v H', Same H H' → RelR K H' v r → Q v H') :
   [V.str w, V.str u].length ≤ sizeLine ∧ ∀ b, H b = none → ([V.str k, V.ref b].length ≤ sizeLine ∧ ∀ a, (upd H b (.tup [.str w, .str u])) a = none → Q (.ref a) (upd (upd H b (.tup [.str w, .str u])) a (.tup [.str k, .ref b]))) := by
 refine ⟨(by show 2 ≤ sizeLine; decide), fun b hb => ⟨(by show 2 ≤ sizeLine; decide), fun a ha => ?_⟩⟩
 have s1 := same_new (o := HO.tup [.str w, .str u]) hb
 have s2 := same_new (o := HO.tup [.str k, .ref b]) ha
 refine h _ _ (s1.trans s2) ?_
 rw [e]
 exact ⟨hk, a, b, rfl, SqT.of upd_same, sqt_mono s2 (SqT.of upd_same)⟩
theorem mk_goR {K : PySem.W.Frag} {H H0 : Hp} {Q : VK} {k w u : Str} {r : Res} {b : Addr} (e : r = .go k w u) (hk : isS k (Str.ofString "fault") = false) (s0 : Same H0 H) (hb : SqT K H b [.str w, .str u]) (h : ∀ v H', Same H0 H' → RelR K H' v r → Q v H') :
   [V.str k, V.ref b].length ≤ sizeLine ∧ ∀ a, H a = none → Q (.ref a) (upd H a (.tup [.str k, .ref b])) := by
 refine ⟨(by show 2 ≤ sizeLine; decide), fun a ha => ?_⟩
 have s2 := same_new (o := HO.tup [.str k, .ref b]) ha
 refine h _ _ (s0.trans s2) ?_
 rw [e]
 exact ⟨hk, a, b, rfl, SqT.of upd_same, sqt_mono s2 hb⟩
theorem mk_flt {K : PySem.W.Frag} {H : Hp} {Q : VK} {w : Str} {r : Res} (e : r = .flt w) (h : ∀ v H', Same H H' → RelR K H' v r → Q v H') :
   [V.str (Str.ofString "fault"), V.str w].length ≤ sizeLine ∧ ∀ a, H a = none → Q (.ref a) (upd H a (.tup [.str (Str.ofString "fault"), .str w])) := by
 refine ⟨(by show 2 ≤ sizeLine; decide), fun a ha => ?_⟩
 have s2 := same_new (o := HO.tup [.str (Str.ofString "fault"), .str w]) ha
 refine h _ _ s2 ?_
 rw [e]
 exact ⟨a, rfl, SqT.of upd_same⟩
theorem kf_skip : isS (Str.ofString "skip") (Str.ofString "fault") = false := by decide +kernel
theorem kf_end : isS (Str.ofString "end") (Str.ofString "fault") = false := by decide +kernel
theorem kf_part : isS (Str.ofString "part") (Str.ofString "fault") = false := by decide +kernel
theorem kf_put : isS (Str.ofString "put") (Str.ofString "fault") = false := by decide +kernel
def mBegin (p q f : Str) (b3 : Bool) (w u : Str) (c : Nat) : Res :=
 if inS c f = true then .go (Str.ofString "skip") (Str.ofString "freed") (Str.ofString "") else
 if isS (sg c) (Str.ofString "\n") = true then .go (Str.ofString "end") (Str.ofString "row") (Str.ofString "") else
 if inS c q = true then .go (Str.ofString "skip") (Str.ofString "within") (sg c) else
 if inS c p = true then .go (Str.ofString "part") (Str.ofString "cell") (Str.ofString "") else
 if isS (sg c) (Str.ofString " ") = true then (if b3 = true then .go (Str.ofString "skip") w u else .go (Str.ofString "put") (Str.ofString "plain") (Str.ofString "")) else
 .go (Str.ofString "put") (Str.ofString "plain") (Str.ofString "")
def mPlain (p q f : Str) (b4 : Bool) (c : Nat) : Res :=
 if inS c f = true then .go (Str.ofString "skip") (Str.ofString "freed") (Str.ofString "") else
 if isS (sg c) (Str.ofString "\n") = true then .go (Str.ofString "end") (Str.ofString "row") (Str.ofString "") else
 if inS c p = true then .go (Str.ofString "part") (Str.ofString "cell") (Str.ofString "") else
 if inS c q = true then (if (!b4) = true then .flt (Str.ofString "quote") else .go (Str.ofString "put") (Str.ofString "plain") (Str.ofString "")) else
 .go (Str.ofString "put") (Str.ofString "plain") (Str.ofString "")
def mWithin (f : Str) (b1 b2 : Bool) (u : Str) (c : Nat) : Res :=
 if inS c f = true then .go (Str.ofString "skip") (Str.ofString "freed") u else
 if isS (sg c) u = true then (if b1 = true then .go (Str.ofString "skip") (Str.ofString "doubt") u else .go (Str.ofString "skip") (Str.ofString "behind") (Str.ofString "")) else
 if isS (sg c) (Str.ofString "\n") = true then (if (!b2) = true then .flt (Str.ofString "line") else .go (Str.ofString "put") (Str.ofString "within") u) else
 .go (Str.ofString "put") (Str.ofString "within") u
def mBehind (p : Str) (b3 : Bool) (c : Nat) : Res :=
 if isS (sg c) (Str.ofString "\n") = true then .go (Str.ofString "end") (Str.ofString "row") (Str.ofString "") else
 if inS c p = true then .go (Str.ofString "part") (Str.ofString "cell") (Str.ofString "") else
 if isS (sg c) (Str.ofString " ") = true then (if b3 = true then .go (Str.ofString "skip") (Str.ofString "behind") (Str.ofString "") else .flt (Str.ofString "behind")) else
 .flt (Str.ofString "behind")
def mDoubt (p : Str) (b3 : Bool) (u : Str) (c : Nat) : Res := if isS (sg c) u = true then .go (Str.ofString "put") (Str.ofString "within") u else mBehind p b3 c
def mFreedX (u : Str) : Res := if isS u (Str.ofString "") = true then .go (Str.ofString "put") (Str.ofString "plain") (Str.ofString "") else .go (Str.ofString "put") (Str.ofString "within") u
def mFreed (b2 : Bool) (u : Str) (c : Nat) : Res :=
 if isS (sg c) (Str.ofString "\n") = true then (if (!b2) = true then .flt (Str.ofString "line") else mFreedX u) else mFreedX u
def mOpen (p q f : Str) (b3 b4 : Bool) (w u : Str) (c : Nat) : Res := if isS w (Str.ofString "plain") = true then mPlain p q f b4 c else mBegin p q f b3 w u c
def stepM (p q f : Str) (b1 b2 b3 b4 : Bool) (w u : Str) (c : Nat) : Res :=
 if isS w (Str.ofString "within") = true then mWithin f b1 b2 u c else
 if isS w (Str.ofString "freed") = true then mFreed b2 u c else
 if isS w (Str.ofString "doubt") = true then mDoubt p b3 u c else
 if isS w (Str.ofString "behind") = true then mBehind p b3 c else
 mOpen p q f b3 b4 w u c
theorem ns {a b : String} (h : isS (Str.ofString a) (Str.ofString b) = false) : ¬ isS (Str.ofString a) (Str.ofString b) = true := by rw [h]; decide
theorem sm_plain {p q f : Str} {b1 b2 b3 b4 : Bool} {w u : Str} {c : Nat} (h : isS w (Str.ofString "plain") = true) : stepM p q f b1 b2 b3 b4 w u c = mPlain p q f b4 c := by
 cases isS_eq h
 unfold stepM mOpen
 rw [if_neg (ns (by decide +kernel)), if_neg (ns (by decide +kernel)), if_neg (ns (by decide +kernel)), if_neg (ns (by decide +kernel)), if_pos (isS_self _)]
theorem sm_within {p q f : Str} {b1 b2 b3 b4 : Bool} {w u : Str} {c : Nat} (h : isS w (Str.ofString "within") = true) : stepM p q f b1 b2 b3 b4 w u c = mWithin f b1 b2 u c := by
 unfold stepM
 rw [if_pos h]
theorem sm_doubt {p q f : Str} {b1 b2 b3 b4 : Bool} {w u : Str} {c : Nat} (h : isS w (Str.ofString "doubt") = true) : stepM p q f b1 b2 b3 b4 w u c = mDoubt p b3 u c := by
 cases isS_eq h
 unfold stepM
 rw [if_neg (ns (by decide +kernel)), if_neg (ns (by decide +kernel)), if_pos (isS_self _)]
theorem sm_behind {p q f : Str} {b1 b2 b3 b4 : Bool} {w u : Str} {c : Nat} (h : isS w (Str.ofString "behind") = true) : stepM p q f b1 b2 b3 b4 w u c = mBehind p b3 c := by
 cases isS_eq h
 unfold stepM
 rw [if_neg (ns (by decide +kernel)), if_neg (ns (by decide +kernel)), if_neg (ns (by decide +kernel)), if_pos (isS_self _)]
theorem sm_freed {p q f : Str} {b1 b2 b3 b4 : Bool} {w u : Str} {c : Nat} (h : isS w (Str.ofString "freed") = true) : stepM p q f b1 b2 b3 b4 w u c = mFreed b2 u c := by
 cases isS_eq h
 unfold stepM
 rw [if_neg (ns (by decide +kernel)), if_pos (isS_self _)]
theorem sm_open {p q f : Str} {b1 b2 b3 b4 : Bool} {w u : Str} {c : Nat} (h1 : isS w (Str.ofString "within") = false) (h2 : isS w (Str.ofString "freed") = false) (h3 : isS w (Str.ofString "doubt") = false) (h4 : isS w (Str.ofString "behind") = false) : stepM p q f b1 b2 b3 b4 w u c = mOpen p q f b3 b4 w u c := by
 unfold stepM
 rw [h1, h2, h3, h4]
 rfl
theorem no_of {b : Bool} (h : ¬ b = true) : b = false := by cases b <;> simp_all
def tfl (d : Addr) : List (Str × V) := [("dialect", .ref d)]
structure Tn (C CT : Addr) (H : Hp) (y : Addr) (p q f : Str) (b1 b2 b3 b4 : Bool) : Prop where
 ok : ∃ dy d dd, H y = some (.ins CT dy (tfl d)) ∧ H d = some (.ins C dd (dfl p q f b1 b2 b3 b4))
theorem Tn.mono {C CT : Addr} {H H' : Hp} {y : Addr} {p q f : Str} {b1 b2 b3 b4 : Bool} (s : Same H H') (h : Tn C CT H y p q f b1 b2 b3 b4) : Tn C CT H' y p q f b1 b2 b3 b4 := by
 obtain ⟨dy, d, dd, e1, e2⟩ := h.ok
 exact ⟨dy, d, dd, s _ _ e1, s _ _ e2⟩
theorem same_make {H H' : Hp} {y dy : Addr} {o : HO} (hy : H y = none) (hdy : H dy = none) (kp : ∀ b o', upd (upd H dy (.own y)) y o b = some o' → b ≠ y → H' b = some o') : Same H H' := fun b o' e => kp b o' (by rw [upd_ne (ne_of_none e hy), upd_ne (ne_of_none e hdy)]; exact e) (ne_of_none e hy)
theorem made_old {H : Hp} {y dy b : Addr} {o o' : HO} (hy : H y = none) (hdy : H dy = none) (e : H b = some o') : upd (upd H dy (.own y)) y o b = some o' := by rw [upd_ne (ne_of_none e hy), upd_ne (ne_of_none e hdy)]; exact e
def RelT (K : PySem.W.Frag) (H : Hp) (x : V) (w : Str × Str) : Prop := ∃ a, x = .ref a ∧ SqT K H a [.str w.1, .str w.2]
theorem RelT.mono {K : PySem.W.Frag} {H H' : Hp} {x : V} {w : Str × Str} (e : Same H H') (h : RelT K H x w) : RelT K H' x w := let ⟨a, e1, e2⟩ := h; ⟨a, e1, sqt_mono e e2⟩
theorem RelT.but {K : PySem.W.Frag} {H : Hp} {x : V} {w : Str × Str} {l : Addr} {ys : List V} {o : HO} (hl : H l = some (.lst ys)) (h : RelT K H x w) : RelT K (upd H l o) x w := by
 obtain ⟨a, e1, e2⟩ := h
 refine ⟨a, e1, ?_⟩
 rcases e2 with (h | ⟨ob, h⟩) | h
 · exact .inl (.inl ((upd_ne (ne_of h hl (by intro z; cases z))).trans h))
 · exact .inl (.inr ⟨ob, (upd_ne (ne_of h hl (by intro z; cases z))).trans h⟩)
 · exact .inr h
theorem paired_imp {α β : Type} {F G : α → β → Prop} (h : ∀ a b, F a b → G a b) : ∀ {xs : List α} {ys : List β}, Paired F xs ys → Paired G xs ys
 | _, _, .nil => .nil
 | _, _, .cons q r => .cons (h _ _ q) (paired_imp h r)
theorem paired_app {α β : Type} {F : α → β → Prop} : ∀ {xs xs' : List α} {ys ys' : List β}, Paired F xs ys → Paired F xs' ys' → Paired F (xs ++ xs') (ys ++ ys')
 | _, _, _, _, .nil, r => r
 | _, _, _, _, .cons q t, r => .cons q (paired_app t r)
theorem paired_get {α β : Type} {F : α → β → Prop} : ∀ {xs : List α} {ys : List β}, Paired F xs ys → ∀ (j : Nat) x, xs[j]? = some x → ∃ y, ys[j]? = some y ∧ F x y
 | _, _, .nil, j, x, h => by simp at h
 | _, _, .cons q t, 0, x, h => by simp at h; subst h; exact ⟨_, rfl, q⟩
 | _, _, .cons q t, j + 1, x, h => by
   obtain ⟨y, h1, h2⟩ := paired_get t j x (by simpa using h)
   exact ⟨y, by simpa using h1, h2⟩
def c5 : List (Str × Str) := [(Str.ofString "row", Str.ofString ""), (Str.ofString "cell", Str.ofString ""), (Str.ofString "plain", Str.ofString ""), (Str.ofString "behind", Str.ofString ""), (Str.ofString "freed", Str.ofString "")]
def c3 (c : Nat) : List (Str × Str) := [(Str.ofString "within", sg c), (Str.ofString "doubt", sg c), (Str.ofString "freed", sg c)]
def cont (l : List Nat) : List (Str × Str) := c5 ++ l.flatMap c3
def nin (u f : Str) : Bool := !(!(Builtin.Str.occurrences f u 0 f.length 1).isEmpty)
def liveM (f w u : Str) : Bool := if isS u (Str.ofString "") = true then true else if isS w (Str.ofString "doubt") = true then true else nin u f
def isRow (w u : Str) : Bool := eqVs [.str w, .str u] [.str (Str.ofString "row"), .str (Str.ofString "")]
theorem inS_iff (c : Nat) (z : Str) : inS c z = decide (c ∈ z.cps.toList) := StrLaws.found_one z c
theorem inS_no {c : Nat} {z : Str} (h : c ∉ z.cps.toList) : ¬ inS c z = true := by rw [inS_iff]; simpa using h
theorem l10 {z : Str} (g : Sg z) : ¬ inS 10 z = true := inS_no fun h => by have := (g.pr 10 h).1; omega
theorem sg_ne : ∀ c : Nat, ¬ isS (sg c) (Str.ofString "") = true := fun c e => by
 have := congrArg Str.length (isS_eq e)
 have e0 : (Str.ofString "").length = 0 := by decide +kernel
 rw [e0] at this
 exact absurd this (by show ¬ (1 = 0); decide)
theorem la : Str.ofString "a" = sg 97 := by decide +kernel
theorem app_list (a b : Str) : (a ++ b).cps.toList = a.cps.toList ++ b.cps.toList := by
 show (a.cps ++ b.cps).toList = _
 simp
theorem em_list : (Str.ofString "").cps.toList = [] := by decide +kernel
def StOk (q w u : Str) : Prop := (u = Str.ofString "" ∧ (w = Str.ofString "row" ∨ w = Str.ofString "cell" ∨ w = Str.ofString "plain" ∨ w = Str.ofString "behind" ∨ w = Str.ofString "freed")) ∨ ∃ c, c ∈ q.cps.toList ∧ u = sg c ∧ (w = Str.ofString "within" ∨ w = Str.ofString "doubt" ∨ w = Str.ofString "freed")
theorem step_open {p q f : Str} {b1 b2 b3 b4 : Bool} {u : Str} {c : Nat} (a : String) (h1 : isS (Str.ofString a) (Str.ofString "within") = false) (h2 : isS (Str.ofString a) (Str.ofString "freed") = false) (h3 : isS (Str.ofString a) (Str.ofString "doubt") = false) (h4 : isS (Str.ofString a) (Str.ofString "behind") = false) : stepM p q f b1 b2 b3 b4 (Str.ofString a) u c = mOpen p q f b3 b4 (Str.ofString a) u c := sm_open h1 h2 h3 h4
theorem sqt_but {K : PySem.W.Frag} {H : Hp} {a l : Addr} {xs ys : List V} {o : HO} (hl : H l = some (.lst ys)) (e2 : SqT K H a xs) : SqT K (upd H l o) a xs := by
 rcases e2 with (h | ⟨ob, h⟩) | h
 · exact .inl (.inl ((upd_ne (ne_of h hl (by intro z; cases z))).trans h))
 · exact .inl (.inr ⟨ob, (upd_ne (ne_of h hl (by intro z; cases z))).trans h⟩)
 · exact .inr h

theorem take_snocG {α : Type} {l : List α} {i : Nat} {c : α} (h : l[i]? = some c) : l.take (i + 1) = l.take i ++ [c] := by
 rw [List.take_succ, h]; rfl
def cellOk (z : Str) : Prop := ∀ k ∈ z.cps.toList, k = 10 ∨ Pn k
theorem sgL {c : Nat} {z : Str} (e : z = Str.ofString "\n") (h : ¬ decide (V.str (sg c) = V.str z) = true) : c ≠ 10 := fun e2 => h (by
 have : Str.ofString "\n" = sg 10 := by decide +kernel
 rw [e, e2, this]; exact decide_eq_true rfl)

theorem seq_split {t u : TS} {D : Ends} {σ : St} {H : Hp} (N : St → Hp → Prop) (hu : ∀ σ' H', N σ' H' → u D σ' H') (ht : (∀ σ' H', N σ' H' → u D σ' H') → t { D with nx := u D } σ H) : tSeq t u D σ H := ht hu

theorem cellOk_snoc {z : Str} {c : Nat} (h : cellOk z) (hc : c = 10 ∨ Pn c) : cellOk (z ++ sg c) := by
 intro k hk
 have e : (z ++ sg c).cps.toList = z.cps.toList ++ [c] := by
   show (z.cps ++ #[c]).toList = _
   simp
 rw [e] at hk
 rcases List.mem_append.mp hk with hk | hk
 · exact h k hk
 · rw [List.mem_singleton.mp hk]; exact hc
theorem cellOk_nil : cellOk (Str.ofString "") := by
 have e : (Str.ofString "").cps.toList = [] := by decide +kernel
 intro k hk; rw [e] at hk; cases hk

theorem em_len : (Str.ofString "").length = 0 := by decide +kernel
def runM (p q f : Str) (b1 b2 b3 b4 : Bool) : Str → Str → List Nat → List Str × Str × Str × Option Str
 | w, u, [] => ([], w, u, none)
 | w, u, c :: cs => match stepM p q f b1 b2 b3 b4 w u c with
   | .flt e => ([], w, u, some e)
   | .go k w' u' => (k :: (runM p q f b1 b2 b3 b4 w' u' cs).1, (runM p q f b1 b2 b3 b4 w' u' cs).2)
def appR (ks : List Str) (r : List Str × Str × Str × Option Str) : List Str × Str × Str × Option Str := (ks ++ r.1, r.2)
theorem run_go {p q f : Str} {b1 b2 b3 b4 : Bool} {w u k w' u' : Str} {c : Nat} {cs : List Nat} {ks : List Str} (h : stepM p q f b1 b2 b3 b4 w u c = .go k w' u') : appR ks (runM p q f b1 b2 b3 b4 w u (c :: cs)) = appR (ks ++ [k]) (runM p q f b1 b2 b3 b4 w' u' cs) := by
 have e : runM p q f b1 b2 b3 b4 w u (c :: cs) = (k :: (runM p q f b1 b2 b3 b4 w' u' cs).1, (runM p q f b1 b2 b3 b4 w' u' cs).2) := by
   show (match stepM p q f b1 b2 b3 b4 w u c with | .flt e => ([], w, u, some e) | .go k w' u' => (k :: (runM p q f b1 b2 b3 b4 w' u' cs).1, (runM p q f b1 b2 b3 b4 w' u' cs).2)) = _
   rw [h]
 rw [e]
 unfold appR
 rw [List.append_assoc]
 rfl
theorem run_flt {p q f : Str} {b1 b2 b3 b4 : Bool} {w u e : Str} {c : Nat} {cs : List Nat} {ks : List Str} (h : stepM p q f b1 b2 b3 b4 w u c = .flt e) : appR ks (runM p q f b1 b2 b3 b4 w u (c :: cs)) = (ks, w, u, some e) := by
 have e2 : runM p q f b1 b2 b3 b4 w u (c :: cs) = ([], w, u, some e) := by
   show (match stepM p q f b1 b2 b3 b4 w u c with | .flt e => ([], w, u, some e) | .go k w' u' => (k :: (runM p q f b1 b2 b3 b4 w' u' cs).1, (runM p q f b1 b2 b3 b4 w' u' cs).2)) = _
   rw [h]
 rw [e2]
 unfold appR
 rw [List.append_nil]
theorem run_end {p q f : Str} {b1 b2 b3 b4 : Bool} {w u : Str} {ks : List Str} : appR ks (runM p q f b1 b2 b3 b4 w u []) = (ks, w, u, none) := by
 show (ks ++ [], w, u, none) = _
 rw [List.append_nil]
def wordV : Option Str → V
 | none => .non
 | some e => .str e
def lawW (r : List Str × Str × Str × Option Str) : Str := match r.2.2.2 with
 | some e => e
 | none => if isRow r.2.1 r.2.2.1 = true then Str.ofString "" else Str.ofString "cut"
theorem Tn.but {C CT : Addr} {H : Hp} {y : Addr} {p q f : Str} {b1 b2 b3 b4 : Bool} {l : Addr} {ys : List V} {o : HO} (hl : H l = some (.lst ys)) (h : Tn C CT H y p q f b1 b2 b3 b4) : Tn C CT (upd H l o) y p q f b1 b2 b3 b4 := by
 obtain ⟨dy, d, dd, e1, e2⟩ := h.ok
 exact ⟨dy, d, dd, (upd_ne (ne_of e1 hl (by intro z; cases z))).trans e1, (upd_ne (ne_of e2 hl (by intro z; cases z))).trans e2⟩
theorem drop_cons {l : List Nat} {i c : Nat} (h : l[i]? = some c) : l.drop i = c :: l.drop (i + 1) := by
 obtain ⟨h1, h2⟩ := List.getElem?_eq_some_iff.mp h
 rw [List.drop_eq_getElem_cons h1, h2]
def cntE (ks : List Str) : Nat := (ks.map V.str).countP fun z => eqV z (.str (Str.ofString "end"))
theorem strs_flat (ks : List Str) : (ks.map V.str).all flatV = true := by rw [List.all_map, List.all_eq_true]; intro _ _; rfl
theorem flt_word {p q f : Str} {b1 b2 b3 b4 : Bool} {w u e : Str} {c : Nat} (h : stepM p q f b1 b2 b3 b4 w u c = .flt e) : e = Str.ofString "line" ∨ e = Str.ofString "quote" ∨ e = Str.ofString "behind" := by
 have hb : ∀ {p : Str} {b3 : Bool}, mBehind p b3 c = .flt e → e = Str.ofString "line" ∨ e = Str.ofString "quote" ∨ e = Str.ofString "behind" := by
   intro p b3 h
   unfold mBehind at h
   split at h
   · cases h
   split at h
   · cases h
   split at h
   · split at h
     · cases h
     · cases h; exact .inr (.inr rfl)
   · cases h; exact .inr (.inr rfl)
 unfold stepM at h
 split at h
 · unfold mWithin at h
   split at h
   · cases h
   split at h
   · split at h <;> cases h
   split at h
   · split at h
     · cases h; exact .inl rfl
     · cases h
   · cases h
 split at h
 · unfold mFreed mFreedX at h
   split at h
   · split at h
     · cases h; exact .inl rfl
     · split at h <;> cases h
   · split at h <;> cases h
 split at h
 · unfold mDoubt at h
   split at h
   · cases h
   · exact hb h
 split at h
 · exact hb h
 unfold mOpen at h
 split at h
 · unfold mPlain at h
   split at h
   · cases h
   split at h
   · cases h
   split at h
   · cases h
   split at h
   · split at h
     · cases h; exact .inr (.inl rfl)
     · cases h
   · cases h
 · unfold mBegin at h
   split at h
   · cases h
   split at h
   · cases h
   split at h
   · cases h
   split at h
   · cases h
   split at h
   · split at h <;> cases h
   · cases h
theorem run_go0 {p q f : Str} {b1 b2 b3 b4 : Bool} {w u k w' u' : Str} {c : Nat} {cs : List Nat} (h : stepM p q f b1 b2 b3 b4 w u c = .go k w' u') : runM p q f b1 b2 b3 b4 w u (c :: cs) = (k :: (runM p q f b1 b2 b3 b4 w' u' cs).1, (runM p q f b1 b2 b3 b4 w' u' cs).2) := by
 show (match stepM p q f b1 b2 b3 b4 w u c with | .flt e => ([], w, u, some e) | .go k w' u' => (k :: (runM p q f b1 b2 b3 b4 w' u' cs).1, (runM p q f b1 b2 b3 b4 w' u' cs).2)) = _
 rw [h]
theorem run_flt0 {p q f : Str} {b1 b2 b3 b4 : Bool} {w u e : Str} {c : Nat} {cs : List Nat} (h : stepM p q f b1 b2 b3 b4 w u c = .flt e) : runM p q f b1 b2 b3 b4 w u (c :: cs) = ([], w, u, some e) := by
 show (match stepM p q f b1 b2 b3 b4 w u c with | .flt e => ([], w, u, some e) | .go k w' u' => (k :: (runM p q f b1 b2 b3 b4 w' u' cs).1, (runM p q f b1 b2 b3 b4 w' u' cs).2)) = _
 rw [h]
theorem run_word {p q f : Str} {b1 b2 b3 b4 : Bool} {w u e : Str} {cs : List Nat} (h : (runM p q f b1 b2 b3 b4 w u cs).2.2.2 = some e) : e ≠ Str.ofString "" ∧ e ≠ Str.ofString "cut" := by
 induction cs generalizing w u with
 | nil => cases h
 | cons c cs ih =>
   cases hs : stepM p q f b1 b2 b3 b4 w u c with
   | go k w' u' =>
     rw [run_go0 hs] at h
     exact ih h
   | flt e2 =>
     rw [run_flt0 hs] at h
     cases h
     rcases flt_word hs with rfl | rfl | rfl
     · exact ⟨fun z => absurd (congrArg (fun z => isS z (Str.ofString "line")) z) (by decide +kernel), fun z => absurd (congrArg (fun z => isS z (Str.ofString "line")) z) (by decide +kernel)⟩
     · exact ⟨fun z => absurd (congrArg (fun z => isS z (Str.ofString "quote")) z) (by decide +kernel), fun z => absurd (congrArg (fun z => isS z (Str.ofString "quote")) z) (by decide +kernel)⟩
     · exact ⟨fun z => absurd (congrArg (fun z => isS z (Str.ofString "behind")) z) (by decide +kernel), fun z => absurd (congrArg (fun z => isS z (Str.ofString "behind")) z) (by decide +kernel)⟩
theorem in_q {q : Str} {c : Nat} (h : inS c q = true) : c ∈ q.cps.toList := by rw [inS_iff] at h; exact of_decide_eq_true h
theorem step_ok {p q f : Str} {b1 b2 b3 b4 : Bool} {w u k w' u' : Str} {c : Nat} (h : StOk q w u) (hs : stepM p q f b1 b2 b3 b4 w u c = .go k w' u') : StOk q w' u' := by
 have hopen : ∀ {w u : Str}, StOk q w u → mOpen p q f b3 b4 w u c = .go k w' u' → StOk q w' u' := by
   intro w u h hs
   unfold mOpen mPlain mBegin at hs
   repeat' split at hs
   all_goals first
     | (cases hs; exact .inl ⟨rfl, .inl rfl⟩)
     | (cases hs; exact .inl ⟨rfl, .inr (.inl rfl)⟩)
     | (cases hs; exact .inl ⟨rfl, .inr (.inr (.inl rfl))⟩)
     | (cases hs; exact .inl ⟨rfl, .inr (.inr (.inr (.inr rfl)))⟩)
     | (cases hs; rename_i hq _ _; exact .inr ⟨c, in_q (by assumption), rfl, .inl rfl⟩)
     | (cases hs; exact .inr ⟨c, in_q (by assumption), rfl, .inl rfl⟩)
     | (cases hs; exact h)
     | cases hs
 have hbeh : mBehind p b3 c = .go k w' u' → StOk q w' u' := by
   intro hs
   unfold mBehind at hs
   repeat' split at hs
   all_goals first
     | (cases hs; exact .inl ⟨rfl, .inl rfl⟩)
     | (cases hs; exact .inl ⟨rfl, .inr (.inl rfl)⟩)
     | (cases hs; exact .inl ⟨rfl, .inr (.inr (.inr (.inl rfl)))⟩)
     | cases hs
 rcases h with ⟨rfl, rfl | rfl | rfl | rfl | rfl⟩ | ⟨d, hd, rfl, rfl | rfl | rfl⟩
 · rw [step_open "row" (by decide +kernel) (by decide +kernel) (by decide +kernel) (by decide +kernel)] at hs
   exact hopen (.inl ⟨rfl, .inl rfl⟩) hs
 · rw [step_open "cell" (by decide +kernel) (by decide +kernel) (by decide +kernel) (by decide +kernel)] at hs
   exact hopen (.inl ⟨rfl, .inr (.inl rfl)⟩) hs
 · rw [step_open "plain" (by decide +kernel) (by decide +kernel) (by decide +kernel) (by decide +kernel)] at hs
   exact hopen (.inl ⟨rfl, .inr (.inr (.inl rfl))⟩) hs
 · rw [sm_behind (isS_self _)] at hs
   exact hbeh hs
 · rw [sm_freed (isS_self _)] at hs
   unfold mFreed mFreedX at hs
   rw [if_pos (isS_self _)] at hs
   repeat' split at hs
   all_goals first
     | (cases hs; exact .inl ⟨rfl, .inr (.inr (.inl rfl))⟩)
     | cases hs
 · rw [sm_within (isS_self _)] at hs
   unfold mWithin at hs
   repeat' split at hs
   all_goals first
     | (cases hs; exact .inr ⟨d, hd, rfl, .inr (.inr rfl)⟩)
     | (cases hs; exact .inr ⟨d, hd, rfl, .inr (.inl rfl)⟩)
     | (cases hs; exact .inr ⟨d, hd, rfl, .inl rfl⟩)
     | (cases hs; exact .inl ⟨rfl, .inr (.inr (.inr (.inl rfl)))⟩)
     | cases hs
 · rw [sm_doubt (isS_self _)] at hs
   unfold mDoubt at hs
   split at hs
   · cases hs; exact .inr ⟨d, hd, rfl, .inl rfl⟩
   · exact hbeh hs
 · rw [sm_freed (isS_self _)] at hs
   unfold mFreed mFreedX at hs
   rw [if_neg (sg_ne d)] at hs
   repeat' split at hs
   all_goals first
     | (cases hs; exact .inr ⟨d, hd, rfl, .inl rfl⟩)
     | cases hs
theorem run_ok {p q f : Str} {b1 b2 b3 b4 : Bool} {w u : Str} {cs : List Nat} (h : StOk q w u) : StOk q (runM p q f b1 b2 b3 b4 w u cs).2.1 (runM p q f b1 b2 b3 b4 w u cs).2.2.1 := by
 induction cs generalizing w u with
 | nil => exact h
 | cons c cs ih =>
   cases hs : stepM p q f b1 b2 b3 b4 w u c with
   | go k w' u' =>
     rw [run_go0 hs]
     exact ih (step_ok h hs)
   | flt e2 =>
     rw [run_flt0 hs]
     exact h
structure Gro where
 rows : List (List Str)
 row : List Str
 cell : Str
def gro (g : Gro) (c : Nat) (k : Str) : Gro :=
 if isS k (Str.ofString "put") = true then ⟨g.rows, g.row, g.cell ++ sg c⟩
 else if isS k (Str.ofString "part") = true then ⟨g.rows, g.row ++ [g.cell], Str.ofString ""⟩
 else if isS k (Str.ofString "end") = true then ⟨g.rows ++ [g.row ++ [g.cell]], [], Str.ofString ""⟩
 else g
def groL : Gro → List Nat → List Str → Gro
 | g, c :: cs, k :: ks => groL (gro g c k) cs ks
 | g, _, _ => g
def gro0 : Gro := ⟨[], [], Str.ofString ""⟩
def tabM (z : Str) (ks : List Str) : List (List Str) := (groL gro0 z.cps.toList ks).rows
theorem groL_take : ∀ (g : Gro) (cs : List Nat) (ks : List Str) (i : Nat) (c : Nat) (k : Str), cs[i]? = some c → ks[i]? = some k → groL g (cs.take (i + 1)) (ks.take (i + 1)) = gro (groL g (cs.take i) (ks.take i)) c k
 | g, [], _, i, c, k, h, _ => by simp at h
 | g, _ :: _, [], i, c, k, _, h => by simp at h
 | g, d :: cs, j :: ks, 0, c, k, h1, h2 => by cases h1; cases h2; rfl
 | g, d :: cs, j :: ks, i + 1, c, k, h1, h2 => by
   show groL (gro g d j) (cs.take (i + 1)) (ks.take (i + 1)) = gro (groL (gro g d j) (cs.take i) (ks.take i)) c k
   exact groL_take _ cs ks i c k h1 h2
theorem groL_min : ∀ (g : Gro) (cs : List Nat) (ks : List Str), groL g (cs.take (min cs.length ks.length)) (ks.take (min cs.length ks.length)) = groL g cs ks
 | g, [], ks => by simp [groL]
 | g, _ :: _, [] => by simp [groL]
 | g, d :: cs, j :: ks => by
   have e : min (d :: cs).length (j :: ks).length = min cs.length ks.length + 1 := by rw [List.length_cons, List.length_cons]; omega
   rw [e]
   exact groL_min (gro g d j) cs ks
theorem strV_at {l : List Str} {i : Nat} {e : V} (h : (l.map V.str)[i]? = some e) : ∃ z, l[i]? = some z ∧ e = .str z := by
 rw [List.getElem?_map] at h
 cases hz : l[i]? with
 | none => rw [hz] at h; cases h
 | some z => rw [hz] at h; exact ⟨z, rfl, (Option.some.inj h).symm⟩
abbrev Rws (H0 H : Hp) : List V → List (List Str) → Prop := Paired fun e r => ∃ a, e = V.ref a ∧ H0 a = none ∧ H a = some (.lst (r.map V.str))
theorem Rws.mono {H0 H H' : Hp} (s : Same H H') : ∀ {es : List V} {rs : List (List Str)}, Rws H0 H es rs → Rws H0 H' es rs
 | _, _, .nil => .nil
 | _, _, .cons ⟨a, e, n, h⟩ r => .cons ⟨a, e, n, s _ _ h⟩ (Rws.mono s r)
theorem Rws.but {H0 H : Hp} {l : Addr} {o : HO} : ∀ {es : List V} {rs : List (List Str)}, (V.ref l ∉ es) → Rws H0 H es rs → Rws H0 (upd H l o) es rs
 | _, _, _, .nil => .nil
 | _, _, hn, .cons ⟨a, e, n, h⟩ r => by
   subst e
   have : a ≠ l := fun q => hn (by rw [q]; exact List.mem_cons_self ..)
   exact .cons ⟨a, rfl, n, (upd_ne this).trans h⟩ (Rws.but (fun q => hn (List.mem_cons_of_mem _ q)) r)
theorem Rws.app {H0 H : Hp} : ∀ {es es' : List V} {rs rs' : List (List Str)}, Rws H0 H es rs → Rws H0 H es' rs' → Rws H0 H (es ++ es') (rs ++ rs')
 | _, _, _, _, .nil, h => h
 | _, _, _, _, .cons r t, h => .cons r (Rws.app t h)
theorem Rws.has {H0 H : Hp} : ∀ {es : List V} {rs : List (List Str)}, Rws H0 H es rs → ∀ {a : Addr}, V.ref a ∈ es → H0 a = none ∧ ∃ ys, H a = some (.lst ys)
 | _, _, .nil, _, h => by cases h
 | _, _, .cons ⟨b, e, n, h⟩ r, a, ha => by
   rcases List.mem_cons.mp ha with q | q
   · subst e; cases q; exact ⟨n, _, h⟩
   · exact Rws.has r q
theorem slice_mem {z : Str} {lo hi : Option Int} {c : Nat} (h : c ∈ (Txt.slice z lo hi).cps.toList) : c ∈ z.cps.toList := by
 unfold Txt.slice at h
 split at h
 · exact h
 · have h : c ∈ List.filterMap (fun x => z.cps[x]?) (Builtin.Str.strSliceIndices lo hi 1 z.length) := h
   obtain ⟨k, _, hk⟩ := List.mem_filterMap.mp h
   exact Array.mem_toList_iff.mpr (Array.mem_of_getElem? hk)

theorem rep_fold (a : Array Nat) : ∀ (n : Nat) (acc : Array Nat), ((List.replicate n a).foldl (· ++ ·) acc).size = acc.size + n * a.size ∧ ∀ c ∈ ((List.replicate n a).foldl (· ++ ·) acc).toList, c ∈ acc.toList ∨ c ∈ a.toList
 | 0, acc => ⟨by simp, fun c hc => .inl hc⟩
 | n + 1, acc => by
   rw [List.replicate_succ, List.foldl_cons]
   obtain ⟨h1, h2⟩ := rep_fold a n (acc ++ a)
   refine ⟨by rw [h1, Array.size_append, Nat.succ_mul]; omega, fun c hc => ?_⟩
   rcases h2 c hc with h | h
   · rw [Array.toList_append] at h
     exact List.mem_append.mp h
   · exact .inr h
theorem rep_len (z : Str) (n : Nat) : (repS z n).length = n * z.length := by
 have := (rep_fold z.cps n #[]).1
 show ((List.replicate n z.cps).foldl (· ++ ·) #[]).size = _
 rw [this]; simp; rfl
theorem slice_ok {z : Str} {lo hi : Option Int} (h : cellOk z) : cellOk (Txt.slice z lo hi) := fun c hc => h c (slice_mem hc)
def oth : List Nat := (Str.ofString "a7ZbXq9KwM").cps.toList
theorem cell_app {a b : Str} (h1 : cellOk a) (h2 : cellOk b) : cellOk (a ++ b) := fun c hc => by
 rw [app_list] at hc
 rcases List.mem_append.mp hc with q | q
 · exact h1 c q
 · exact h2 c q
theorem ne_ofS {a b : String} (h : isS (Str.ofString a) (Str.ofString b) = false) : Str.ofString a ≠ Str.ofString b := fun e => by rw [e, isS_self] at h; cases h
theorem step_row {p q f : Str} {b1 b2 b3 b4 : Bool} {w u k w' u' : Str} {c : Nat} (h : stepM p q f b1 b2 b3 b4 w u c = .go k w' u') :
   (k = Str.ofString "end" ∧ w' = Str.ofString "row" ∧ u' = Str.ofString "") ∨ (k ≠ Str.ofString "end" ∧ (w' = Str.ofString "row" → k = Str.ofString "skip" ∧ w = Str.ofString "row")) := by
 have n1 : Str.ofString "skip" ≠ Str.ofString "end" := ne_ofS (by decide +kernel)
 have n2 : Str.ofString "put" ≠ Str.ofString "end" := ne_ofS (by decide +kernel)
 have n3 : Str.ofString "part" ≠ Str.ofString "end" := ne_ofS (by decide +kernel)
 have m1 : Str.ofString "freed" ≠ Str.ofString "row" := ne_ofS (by decide +kernel)
 have m2 : Str.ofString "within" ≠ Str.ofString "row" := ne_ofS (by decide +kernel)
 have m3 : Str.ofString "cell" ≠ Str.ofString "row" := ne_ofS (by decide +kernel)
 have m4 : Str.ofString "plain" ≠ Str.ofString "row" := ne_ofS (by decide +kernel)
 have m5 : Str.ofString "behind" ≠ Str.ofString "row" := ne_ofS (by decide +kernel)
 have m6 : Str.ofString "doubt" ≠ Str.ofString "row" := ne_ofS (by decide +kernel)
 have hB : mBehind p b3 c = .go k w' u' → (k = Str.ofString "end" ∧ w' = Str.ofString "row" ∧ u' = Str.ofString "") ∨ (k ≠ Str.ofString "end" ∧ (w' = Str.ofString "row" → k = Str.ofString "skip" ∧ w = Str.ofString "row")) := by
   intro h
   unfold mBehind at h
   repeat' split at h
   all_goals first
     | (cases h; done)
     | (cases h; exact .inl ⟨rfl, rfl, rfl⟩)
     | (cases h; exact .inr ⟨by assumption, fun z => absurd z (by assumption)⟩)
     | (cases h; exact .inr ⟨by assumption, fun z => ⟨rfl, z⟩⟩)
 unfold stepM at h
 split at h
 · unfold mWithin at h
   repeat' split at h
   all_goals first
     | (cases h; done)
     | (cases h; exact .inl ⟨rfl, rfl, rfl⟩)
     | (cases h; exact .inr ⟨by assumption, fun z => absurd z (by assumption)⟩)
     | (cases h; exact .inr ⟨by assumption, fun z => ⟨rfl, z⟩⟩)
 split at h
 · unfold mFreed mFreedX at h
   repeat' split at h
   all_goals first
     | (cases h; done)
     | (cases h; exact .inl ⟨rfl, rfl, rfl⟩)
     | (cases h; exact .inr ⟨by assumption, fun z => absurd z (by assumption)⟩)
     | (cases h; exact .inr ⟨by assumption, fun z => ⟨rfl, z⟩⟩)
 split at h
 · unfold mDoubt at h
   split at h
   · cases h; exact .inr ⟨n2, fun z => absurd z m2⟩
   · exact hB h
 split at h
 · exact hB h
 unfold mOpen at h
 split at h
 · unfold mPlain at h
   repeat' split at h
   all_goals first
     | (cases h; done)
     | (cases h; exact .inl ⟨rfl, rfl, rfl⟩)
     | (cases h; exact .inr ⟨by assumption, fun z => absurd z (by assumption)⟩)
     | (cases h; exact .inr ⟨by assumption, fun z => ⟨rfl, z⟩⟩)
 · unfold mBegin at h
   repeat' split at h
   all_goals first
     | (cases h; done)
     | (cases h; exact .inl ⟨rfl, rfl, rfl⟩)
     | (cases h; exact .inr ⟨by assumption, fun z => absurd z (by assumption)⟩)
     | (cases h; exact .inr ⟨by assumption, fun z => ⟨rfl, z⟩⟩)
theorem run_appZ {p q f : Str} {b1 b2 b3 b4 : Bool} {ds : List Nat} : ∀ {cs : List Nat} {w u : Str}, (runM p q f b1 b2 b3 b4 w u cs).2.2.2 = none → runM p q f b1 b2 b3 b4 w u (cs ++ ds) = appR (runM p q f b1 b2 b3 b4 w u cs).1 (runM p q f b1 b2 b3 b4 (runM p q f b1 b2 b3 b4 w u cs).2.1 (runM p q f b1 b2 b3 b4 w u cs).2.2.1 ds)
 | [], w, u, _ => by
   show runM p q f b1 b2 b3 b4 w u ds = ([] ++ (runM p q f b1 b2 b3 b4 w u ds).1, (runM p q f b1 b2 b3 b4 w u ds).2)
   rw [List.nil_append]
 | c :: cs, w, u, h => by
   show runM p q f b1 b2 b3 b4 w u (c :: (cs ++ ds)) = _
   cases hs : stepM p q f b1 b2 b3 b4 w u c with
   | go k w' u' =>
     rw [run_go0 hs] at h
     have e := run_appZ (cs := cs) (w := w') (u := u') (ds := ds) h
     rw [run_go0 hs, run_go0 hs, e]
     rfl
   | flt e => rw [run_flt0 hs] at h; cases h
theorem gro_end (g : Gro) (c : Nat) : gro g c (Str.ofString "end") = ⟨g.rows ++ [g.row ++ [g.cell]], [], Str.ofString ""⟩ := by
 unfold gro
 rw [if_neg (ns (by decide +kernel)), if_neg (ns (by decide +kernel)), if_pos (isS_self _)]
theorem gro_skip (g : Gro) (c : Nat) : gro g c (Str.ofString "skip") = g := by
 unfold gro
 rw [if_neg (ns (by decide +kernel)), if_neg (ns (by decide +kernel)), if_neg (ns (by decide +kernel))]
theorem row_clean {p q f : Str} {b1 b2 b3 b4 : Bool} : ∀ {cs : List Nat} {w u : Str} {g : Gro}, (w = Str.ofString "row" → g.row = [] ∧ g.cell = Str.ofString "") → (runM p q f b1 b2 b3 b4 w u cs).2.2.2 = none → (runM p q f b1 b2 b3 b4 w u cs).2.1 = Str.ofString "row" → (groL g cs (runM p q f b1 b2 b3 b4 w u cs).1).row = [] ∧ (groL g cs (runM p q f b1 b2 b3 b4 w u cs).1).cell = Str.ofString ""
 | [], w, u, g, hg, _, hr => hg hr
 | c :: cs, w, u, g, hg, hn, hr => by
   cases hs : stepM p q f b1 b2 b3 b4 w u c with
   | go k w' u' =>
     rw [run_go0 hs] at hn hr ⊢
     show (groL (gro g c k) cs _).row = [] ∧ (groL (gro g c k) cs _).cell = _
     refine row_clean (cs := cs) (w := w') (u := u') (fun hw => ?_) hn hr
     rcases step_row hs with ⟨rfl, _, _⟩ | ⟨_, h2⟩
     · rw [gro_end]; exact ⟨rfl, rfl⟩
     · obtain ⟨rfl, hw0⟩ := h2 hw
       rw [gro_skip]; exact hg hw0
   | flt e => rw [run_flt0 hs] at hn; cases hn
theorem row_of {w u : Str} (h : isRow w u = true) : w = Str.ofString "row" ∧ u = Str.ofString "" := by
 unfold isRow eqVs eqVs eqVs at h
 simp [eqV] at h
 exact h
theorem law_ok {p q f : Str} {b1 b2 b3 b4 : Bool} {w u : Str} {cs : List Nat} (h : lawW (runM p q f b1 b2 b3 b4 w u cs) = Str.ofString "") : (runM p q f b1 b2 b3 b4 w u cs).2.2.2 = none ∧ (runM p q f b1 b2 b3 b4 w u cs).2.1 = Str.ofString "row" ∧ (runM p q f b1 b2 b3 b4 w u cs).2.2.1 = Str.ofString "" := by
 unfold lawW at h
 cases he : (runM p q f b1 b2 b3 b4 w u cs).2.2.2 with
 | some e => rw [he] at h; exact absurd h (run_word he).1
 | none =>
   rw [he] at h
   dsimp only at h
   split at h
   · rename_i hh; exact ⟨rfl, row_of hh⟩
   · exact absurd h (ne_ofS (by decide +kernel))
abbrev runZ (p q f : Str) (b1 b2 b3 b4 : Bool) (z : Str) := runM p q f b1 b2 b3 b4 (Str.ofString "row") (Str.ofString "") z.cps.toList
theorem law_row {r : List Str × Str × Str × Option Str} (h : r.2 = (Str.ofString "row", Str.ofString "", none)) : lawW r = Str.ofString "" := by
 unfold lawW
 rw [h]
 exact if_pos (by decide +kernel)
theorem Rws.weak {A H : Hp} {es : List V} {R : List (List Str)} (h : Rws A H es R) : Rws (fun _ => none) H es R := paired_imp (fun _ _ ⟨a, e1, _, e3⟩ => ⟨a, e1, rfl, e3⟩) h
def okc (c : Nat) : Bool := decide (c = 10 ∨ Pn c)
def textOk (z : Str) : Bool := z.cps.toList.all okc
theorem text_ok {z : Str} (h : cellOk z) : textOk z = true := by
 unfold textOk
 rw [List.all_eq_true]
 exact fun c hc => decide_eq_true (h c hc)
def isT : V → Bool
 | .str z => decide (z.length ≤ 2000) && textOk z
 | _ => false
theorem isT_len {z : Str} (h : cellOk z) : isT (.str z) = decide ((z.length : Int) ≤ 2000) := by
 show (decide (z.length ≤ 2000) && textOk z) = _
 rw [text_ok h, Bool.and_true]
 by_cases c : z.length ≤ 2000
 · rw [decide_eq_true c, decide_eq_true (show (z.length : Int) ≤ 2000 by omega)]
 · rw [decide_eq_false c, decide_eq_false (show ¬ (z.length : Int) ≤ 2000 by omega)]
inductive Knd (H : Hp) : V → Prop where
 | str (z : Str) : Knd H (.str z)
 | non : Knd H .non
 | bl (b : Bool) : Knd H (.bl b)
 | int (n : Int) : Knd H (.int n)
 | lst {a : Addr} {xs : List V} : H a = some (.lst xs) → xs.all flatV = true → Knd H (.ref a)
 | tup {a : Addr} {xs : List V} : H a = some (.tup xs) → xs.all flatV = true → Knd H (.ref a)
 | dic {a : Addr} {xs : List (Key × V)} : H a = some (.dK xs) → True → Knd H (.ref a)
theorem Knd.mono {H H' : Hp} {v : V} (s : Same H H') (h : Knd H v) : Knd H' v := by
 cases h with
 | str z => exact .str z
 | non => exact .non
 | bl b => exact .bl b
 | int n => exact .int n
 | lst e f => exact .lst (s _ _ e) f
 | tup e f => exact .tup (s _ _ e) f
 | dic e f => exact .dic (s _ _ e) f
theorem isT_str {v : V} (h : isT v = true) : ∃ z, v = .str z ∧ cellOk z ∧ z.length ≤ 2000 := by
 cases v with
 | str z =>
   have h : (decide (z.length ≤ 2000) && textOk z) = true := h
   rw [Bool.and_eq_true] at h
   refine ⟨z, rfl, fun c hc => ?_, of_decide_eq_true h.1⟩
   exact of_decide_eq_true (List.all_eq_true.mp h.2 c hc)
 | _ => cases h

theorem join_list (zs : List Str) : (Txt.join (Str.ofString "") zs).cps.toList = zs.flatMap (fun z => z.cps.toList) := by
 have ee : (Str.ofString "").cps.toList = [] := by decide +kernel
 show (Builtin.Str.glued (Str.ofString "") zs).cps.toList = _
 rw [StrLaws.glued_eq_join]
 induction zs with
 | nil => exact ee
 | cons c cs ih =>
   cases cs with
   | nil =>
     show c.cps.toList = _
     simp
   | cons d cs =>
     show (c ++ (Str.ofString "") ++ Str.join (Str.ofString "") (d :: cs)).cps.toList = _
     rw [app_list, app_list, ee, List.append_nil, ih]
     simp [List.flatMap_cons]
theorem str_ext {a b : Str} (h : a.cps.toList = b.cps.toList) : a = b := by
 cases a; cases b
 congr 1
 exact Array.toList_inj.mp h
theorem slice_len {z : Str} {lo hi : Option Int} {m : Nat} (h : (Builtin.Str.strSliceIndices lo hi 1 z.length).length = m) : (Txt.slice z lo hi).length ≤ m := by
 unfold Txt.slice
 split
 · rename_i e
   have : (Builtin.Str.strSliceIndices lo hi 1 z.length).length = z.length := by simpa using e
   omega
 · show (List.filterMap _ _).toArray.size ≤ m
   rw [List.size_toArray, ← h]
   exact List.length_filterMap_le _ _
theorem int_eq {a b : Int} (h : decide (V.int a = V.int b) = true) : a = b := by have := of_decide_eq_true h; cases this; rfl
theorem all_at {α : Type} [DecidableEq α] {r r' : List α} (h : r.length = r'.length) : ((List.range r.length).all fun j => decide (r[j]? = r'[j]?)) = decide (r = r') := by
 rw [Bool.eq_iff_iff, List.all_eq_true, decide_eq_true_iff]
 constructor
 · intro q
   refine List.ext_getElem? fun i => ?_
   by_cases hi : i < r.length
   · exact of_decide_eq_true (q i (List.mem_range.mpr hi))
   · rw [List.getElem?_eq_none (by omega), List.getElem?_eq_none (by omega)]
 · rintro rfl i _
   exact decide_eq_true rfl
theorem str_eqV (z z' : Str) : eqV (.str z) (.str z') = decide (z = z') := by
 show (z == z') = _
 rw [Bool.eq_iff_iff, beq_iff_eq, decide_eq_true_iff]
theorem cmp_row {K : PySem.W.Frag} {H : Hp} {a b : Addr} {r r' : List Str} (ha : H a = some (.lst (r.map V.str))) (hb : H b = some (.lst (r'.map V.str))) : CmpD K H 1 (.ref a) (.ref b) (decide (r = r')) := by
 by_cases hne : a = b
 · subst hne
   rw [ha] at hb
   have e : r = r' := by
     have := HO.lst.inj (Option.some.inj hb)
     exact (List.map_inj_right (fun x y h => V.str.inj h)).mp this
   rw [decide_eq_true e]
   exact .same
 by_cases hl : r.length = r'.length
 · rw [← all_at hl]
   have e : r.length = (r.map V.str).length := (List.length_map _).symm
   rw [e]
   refine CmpD.lst hne (SqL.of ha) (SqL.of hb) (by rw [List.length_map, List.length_map, hl]) fun j x y ex ey => ?_
   obtain ⟨z, hz, rfl⟩ := strV_at ex
   obtain ⟨z', hz', rfl⟩ := strV_at ey
   have e2 : decide (r[j]? = r'[j]?) = eqV (.str z) (.str z') := by
     rw [hz, hz', str_eqV, Bool.eq_iff_iff, decide_eq_true_iff, decide_eq_true_iff]
     exact ⟨fun q => Option.some.inj q, fun q => by rw [q]⟩
   rw [e2]
   exact .flat rfl rfl
 · rw [decide_eq_false (fun q => hl (by rw [q]))]
   exact CmpD.len hne (SqL.of ha) (SqL.of hb) (by rw [List.length_map, List.length_map]; exact hl)
theorem cmp_tab {K : PySem.W.Frag} {A B H : Hp} {la lb : Addr} {es ds : List V} {T T' : List (List Str)} (ha : H la = some (.lst es)) (hb : H lb = some (.lst ds)) (h1 : Rws A H es T) (h2 : Rws B H ds T') : TopC K H (.ref la) (.ref lb) (decide (T = T')) := by
 have l1 := h1.length
 have l2 := h2.length
 by_cases hl : T.length = T'.length
 · rw [← all_at hl, ← l1]
   refine TopC.lst (n := 1) (by decide) (SqL.of ha) (SqL.of hb) (by omega) fun j x y ex ey => ?_
   obtain ⟨r, hr, a, rfl, _, ha⟩ := paired_get h1 j x ex
   obtain ⟨r', hr', b, rfl, _, hb⟩ := paired_get h2 j y ey
   have e2 : decide (T[j]? = T'[j]?) = decide (r = r') := by
     rw [hr, hr', Bool.eq_iff_iff, decide_eq_true_iff, decide_eq_true_iff]
     exact ⟨fun q => Option.some.inj q, fun q => by rw [q]⟩
   rw [e2]
   exact cmp_row ha hb
 · rw [decide_eq_false (fun q => hl (by rw [q]))]
   exact TopC.len (SqL.of ha) (SqL.of hb) (by omega)
def rdV (r : List Str × Str × Str × Option Str) (z : Str) : Option (List (List Str)) := if lawW r = Str.ofString "" then some (tabM z r.1) else none
def RdV (A H : Hp) (v : V) : Option (List (List Str)) → Prop
 | none => v = .non
 | some T => ∃ l es, v = .ref l ∧ A l = none ∧ H l = some (.lst es) ∧ Rws A H es T
theorem RdV.mono {A H H' : Hp} {v : V} {o : Option (List (List Str))} (s : Same H H') (h : RdV A H v o) : RdV A H' v o := by
 cases o with
 | none => exact h
 | some T => obtain ⟨l, es, e1, e2, e3, e4⟩ := h; exact ⟨l, es, e1, e2, s _ _ e3, Rws.mono s e4⟩
theorem rd_ne {K : PySem.W.Frag} {A B H : Hp} {v w : V} {o o' : Option (List (List Str))} {Q : VK} (h1 : RdV A H v o) (h2 : RdV B H w o') (q : Q (.bl (!decide (o = o'))) H) : rNe v w H Q ∨ (rNeC K v w H Q ∨ rNeM K v w H Q) := by
 cases o with
 | none =>
   cases h1
   cases o' with
   | none => cases h2; rw [decide_eq_true rfl] at q; exact .inl ⟨rfl, by rw [decide_eq_true rfl]; exact q⟩
   | some T =>
     obtain ⟨l, es, rfl, _, e3, _⟩ := h2
     rw [decide_eq_false (by intro z; cases z)] at q
     exact .inr (.inr ⟨.inl ⟨rfl, l, _, rfl, SqL.of e3⟩, q⟩)
 | some T =>
   obtain ⟨l, es, rfl, _, e3, e4⟩ := h1
   cases o' with
   | none =>
     cases h2
     rw [decide_eq_false (by intro z; cases z)] at q
     exact .inr (.inr ⟨.inr ⟨rfl, l, _, rfl, SqL.of e3⟩, q⟩)
   | some T' =>
     obtain ⟨l', es', rfl, _, e3', e4'⟩ := h2
     have e : decide (some T = some T') = decide (T = T') := by
       by_cases h : T = T'
       · rw [h, decide_eq_true rfl, decide_eq_true rfl]
       · rw [decide_eq_false h, decide_eq_false fun z => h (Option.some.inj z)]
     rw [e] at q
     exact .inr (.inl ⟨_, cmp_tab e3 e3' e4 e4', q⟩)
def oS (c : Nat) (k : Str) : List Str := if isS k (Str.ofString "put") = true then [sg c] else if isS k (Str.ofString "skip") = true then [] else [k]
structure B4 where
 a : Bool
 b : Bool
 c : Bool
 d : Bool
def B4.vs (b : B4) : List V := [.bl b.a, .bl b.b, .bl b.c, .bl b.d]
abbrev Cho := Str × Str × Str × B4
def sevC (x : Cho) : List V := seven x.1 x.2.1 x.2.2.1 x.2.2.2.a x.2.2.2.b x.2.2.2.c x.2.2.2.d
def dflC (x : Cho) : List (Str × V) := dfl x.1 x.2.1 x.2.2.1 x.2.2.2.a x.2.2.2.b x.2.2.2.c x.2.2.2.d
abbrev GdC (x : Cho) : Prop := Gd x.1 x.2.1 x.2.2.1
abbrev Tps (H : Hp) : List V → List Cho → Prop := Paired fun e x => ∃ t, e = V.ref t ∧ H t = some (.tup (sevC x))
theorem Tps.mono {H H' : Hp} (s : Same H H') : ∀ {es : List V} {xs : List Cho}, Tps H es xs → Tps H' es xs
 | _, _, .nil => .nil
 | _, _, .cons ⟨t, e, h⟩ r => .cons ⟨t, e, s _ _ h⟩ (Tps.mono s r)
abbrev Mks (C : Addr) (H : Hp) : List V → List Cho → Prop := Paired fun e x => ∃ y dy, e = V.ref y ∧ H y = some (.ins C dy (dflC x))
theorem Mks.mono {C : Addr} {H H' : Hp} (s : Same H H') : ∀ {es : List V} {xs : List Cho}, Mks C H es xs → Mks C H' es xs
 | _, _, .nil => .nil
 | _, _, .cons ⟨y, dy, e, h⟩ r => .cons ⟨y, dy, e, s _ _ h⟩ (Mks.mono s r)
def runC (x : Cho) (z : Str) : List Str × Str × Str × Option Str := runM x.1 x.2.1 x.2.2.1 x.2.2.2.a x.2.2.2.b x.2.2.2.c x.2.2.2.d (Str.ofString "row") (Str.ofString "") z.cps.toList
theorem rev_sg {z : Str} (g : Sg z) : Sg (revS z) := by
 have e : (revS z).cps.toList = z.cps.toList.reverse := by unfold revS; simp
 exact ⟨by rw [e]; exact List.pairwise_reverse.mpr (List.Pairwise.imp (fun h => Ne.symm h) g.nd), fun c hc => g.pr c (by rw [e] at hc; exact List.mem_reverse.mp hc)⟩
theorem rev_len (z : Str) : (revS z).length = z.length := by
 have e : (revS z).cps.toList = z.cps.toList.reverse := by unfold revS; simp
 have := congrArg List.length e
 rw [List.length_reverse, Array.length_toList, Array.length_toList] at this
 exact this

theorem Mks.but {C : Addr} {H : Hp} {l : Addr} {o : HO} {ws : List V} (hl : H l = some (.lst ws)) : ∀ {es : List V} {xs : List Cho}, Mks C H es xs → Mks C (upd H l o) es xs
 | _, _, .nil => .nil
 | _, _, .cons ⟨y, dy, e, h⟩ r => .cons ⟨y, dy, e, (upd_ne (ne_of h hl (by intro z; cases z))).trans h⟩ (Mks.but hl r)
theorem Tps.butL {H : Hp} {l : Addr} {o : HO} {ws : List V} (hl : H l = some (.lst ws)) : ∀ {es : List V} {xs : List Cho}, Tps H es xs → Tps (upd H l o) es xs
 | _, _, .nil => .nil
 | _, _, .cons ⟨y, e, h⟩ r => .cons ⟨y, e, (upd_ne (ne_of h hl (by intro z; cases z))).trans h⟩ (Tps.butL hl r)

def catS : List Str → Str
 | [] => Str.ofString ""
 | z :: r => z ++ catS r
theorem em_app (z : Str) : Str.ofString "" ++ z = z := str_ext (by rw [app_list, em_list]; rfl)
theorem app_em (z : Str) : z ++ Str.ofString "" = z := str_ext (by rw [app_list, em_list, List.append_nil])
theorem RelT.butL {K : PySem.W.Frag} {H : Hp} {x : V} {w : Str × Str} {l : Addr} {ys : List V} {o : HO} (hl : H l = some (.lst ys)) (h : RelT K H x w) : RelT K (upd H l o) x w := RelT.but hl h
def lens (r : List Str) : List Nat := r.map fun z => z.length
def total (t : List (List Str)) : Nat := (t.map fun r => (lens r).sum).sum
structure RowOk (r : List Str) : Prop where
 lo : 1 ≤ r.length
 hi : r.length ≤ 20
 ok : ∀ c ∈ r, cellOk c
structure TabOk (t : List (List Str)) : Prop where
 n : t.length ≤ 60
 rows : ∀ r ∈ t, RowOk r
 sum : total t ≤ 400
theorem mem_sum {ns : List Nat} {n : Nat} (h : n ∈ ns) : n ≤ ns.sum := by
 induction ns with
 | nil => cases h
 | cons m ns ih =>
   rw [List.sum_cons]
   rcases List.mem_cons.mp h with rfl | h
   · omega
   · have := ih h; omega
theorem row_sum {t : List (List Str)} {r : List Str} (h : r ∈ t) : (lens r).sum ≤ total t := mem_sum (List.mem_map_of_mem h)
theorem cell_len {r : List Str} {c : Str} (h : c ∈ r) : c.length ≤ (lens r).sum := mem_sum (List.mem_map_of_mem (f := fun z : Str => z.length) h)
def RelRow (H : Hp) (v : V) (r : List Str) : Prop := ∃ a, v = .ref a ∧ H a = some (.lst (r.map V.str))
theorem RelRow.mono {H H' : Hp} {v : V} {r : List Str} (s : Same H H') (h : RelRow H v r) : RelRow H' v r := let ⟨a, e1, e2⟩ := h; ⟨a, e1, s _ _ e2⟩
def puts (z : Str) : List (Str × Str) := z.cps.toList.map fun k => (Str.ofString "put", sg k)
def partT : Str × Str := (Str.ofString "part", Str.ofString "")
def endT : Str × Str := (Str.ofString "end", Str.ofString "")
def tokC : List Str → Nat → List (Str × Str)
 | _, 0 => []
 | r, n + 1 => tokC r n ++ ((if n = 0 then [] else [partT]) ++ puts (r.getD n (Str.ofString "")))
def tokRow (r : List Str) : List (Str × Str) := tokC r r.length ++ [endT]
def tokTab (t : List (List Str)) : List (Str × Str) := t.flatMap tokRow
theorem tokC_succ {r : List Str} {n : Nat} {z : Str} (h : r[n]? = some z) : tokC r (n + 1) = tokC r n ++ ((if n = 0 then [] else [partT]) ++ puts z) := by
 show tokC r n ++ ((if n = 0 then [] else [partT]) ++ puts (r.getD n (Str.ofString ""))) = _
 rw [List.getD_eq_getElem?_getD, h]; rfl
theorem puts_len (z : Str) : (puts z).length = z.length := by unfold puts; rw [List.length_map, Array.length_toList]; rfl
theorem tokC_len (r : List Str) : ∀ n, n ≤ r.length → (tokC r n).length + (if n = 0 then 0 else 1) = n + (lens (r.take n)).sum
 | 0, _ => by simp [tokC, lens]
 | n + 1, h => by
   have hn : n < r.length := by omega
   rw [tokC_succ (z := r[n]) (by simp [hn]), List.length_append, List.length_append, puts_len, take_snocG (c := r[n]) (by simp [hn])]
   have ih := tokC_len r n (by omega)
   unfold lens at ih ⊢
   rw [List.map_append, List.sum_append]
   simp only [List.map_cons, List.map_nil, List.sum_cons, List.sum_nil]
   by_cases h0 : n = 0
   · subst h0; simp [tokC]; omega
   · simp [h0] at ih ⊢; omega
theorem tokRow_len {r : List Str} (h : 1 ≤ r.length) : (tokRow r).length = r.length + (lens r).sum := by
 unfold tokRow
 have := tokC_len r r.length (Nat.le_refl _)
 rw [List.take_of_length_le (Nat.le_refl _), if_neg (by omega)] at this
 rw [List.length_append]; show _ + 1 = _; omega
theorem tokTab_len {t : List (List Str)} (h : ∀ r ∈ t, RowOk r) : (tokTab t).length = (t.map fun r => r.length + (lens r).sum).sum := by
 unfold tokTab
 induction t with
 | nil => rfl
 | cons r t ih =>
   rw [List.flatMap_cons, List.length_append, ih (fun r' h' => h r' (List.mem_cons_of_mem _ h')), tokRow_len (h r (List.mem_cons_self ..)).lo, List.map_cons, List.sum_cons]
theorem tab_bound {t : List (List Str)} (h : ∀ r ∈ t, RowOk r) : (t.map fun r => r.length + (lens r).sum).sum ≤ 20 * t.length + total t := by
 unfold total
 induction t with
 | nil => exact Nat.le_refl _
 | cons r t ih =>
   have h1 := (h r (List.mem_cons_self ..)).hi
   have h2 := ih fun r' h' => h r' (List.mem_cons_of_mem _ h')
   rw [List.map_cons, List.sum_cons, List.map_cons, List.sum_cons, List.length_cons]
   omega
theorem tab_take {t : List (List Str)} (h : TabOk t) (i : Nat) : (tokTab (t.take i)).length ≤ 1600 := by
 have hr : ∀ r ∈ t.take i, RowOk r := fun r hr => h.rows r (List.mem_of_mem_take hr)
 rw [tokTab_len hr]
 have h1 := tab_bound hr
 have h2 : (t.take i).length ≤ 60 := by rw [List.length_take]; have := h.n; omega
 have h3 : total (t.take i) ≤ total t := by
   unfold total
   have e := congrArg (fun l => (l.map fun r => (lens r).sum).sum) (List.take_append_drop i t)
   simp only [List.map_append, List.sum_append] at e
   omega
 have := h.sum
 omega
theorem tokTab_snoc (t : List (List Str)) (r : List Str) : tokTab (t ++ [r]) = tokTab t ++ tokRow r := by unfold tokTab; rw [List.flatMap_append]; simp
theorem paired_snoc {α β : Type} {F : α → β → Prop} {xs : List α} {ys : List β} {x : α} {y : β} (h : Paired F xs ys) (q : F x y) : Paired F (xs ++ [x]) (ys ++ [y]) := paired_app h (.cons q .nil)
theorem total_snoc (t : List (List Str)) (r : List Str) : total (t ++ [r]) = total t + (lens r).sum := by unfold total; rw [List.map_append, List.sum_append]; simp
theorem lens_snoc (r : List Str) (z : Str) : (lens (r ++ [z])).sum = (lens r).sum + z.length := by unfold lens; rw [List.map_append, List.sum_append]; simp
theorem row_same {K : PySem.W.Frag} {H : Hp} {x y : V} {r : List Str} (h1 : RelRow H x r) (h2 : RelRow H y r) : SameD K H 1 x y := by
 obtain ⟨a, rfl, ha⟩ := h1
 obtain ⟨b, rfl, hb⟩ := h2
 refine .lst (SqL.of ha) (SqL.of hb) rfl fun j x y ex ey => ?_
 rw [ex] at ey; cases ey
 obtain ⟨z, _, rfl⟩ := List.mem_map.mp (List.mem_of_getElem? ex)
 exact .flat rfl rfl (eqV_self rfl)
theorem rows_same {K : PySem.W.Frag} {H : Hp} {xs ys : List V} {t : List (List Str)} (h1 : Paired (RelRow H) xs t) (h2 : Paired (RelRow H) ys t) : ∀ (j : Nat) x y, xs[j]? = some x → ys[j]? = some y → SameD K H 1 x y := by
 intro j x y ex ey
 obtain ⟨r, e1, q1⟩ := paired_get h1 j x ex
 obtain ⟨r', e2, q2⟩ := paired_get h2 j y ey
 rw [e1] at e2; cases e2
 exact row_same q1 q2
def stepS (acc : List Nat) (c : Nat) : List Nat := if away ⟨acc.toArray⟩ c = true then acc ++ [c] else acc
def specL (l : List Nat) : List Nat := l.foldl stepS []
def specM (z : Str) : Str := ⟨(specL z.cps.toList).toArray⟩
def liveStep (p q f : Str) (b1 b2 b3 b4 : Bool) (w u : Str) (c : Nat) : Option (Str × Str × Str) := match stepM p q f b1 b2 b3 b4 w u c with
 | .go k w' u' => if liveM f w' u' = true then some (k, w', u') else none
 | .flt _ => none
def cntM (ts : List (Str × Str)) (n : Nat) (k s : Str) : Option Nat := if isS k (Str.ofString "skip") = true then some n else if ts[n]? = some (k, if isS k (Str.ofString "put") = true then s else Str.ofString "") then some (n + 1) else none
abbrev Mrk := (Str × Str) × Nat
def MrkAt (K : PySem.W.Frag) (H : Hp) (m : Mrk) (v : V) : Prop := ∃ b s, v = .ref b ∧ SqT K H b [.ref s, .int m.2] ∧ SqT K H s [.str m.1.1, .str m.1.2]
theorem MrkAt.mono {K : PySem.W.Frag} {H H' : Hp} {m : Mrk} {v : V} (e : Same H H') (h : MrkAt K H m v) : MrkAt K H' m v := by
 obtain ⟨b, s, e1, e2, e3⟩ := h
 exact ⟨b, s, e1, sqt_mono e e2, sqt_mono e e3⟩
def mrkM (p q f : Str) (b1 b2 b3 b4 : Bool) (ts : List (Str × Str)) (m : Mrk) (c : Nat) : Option Mrk := match liveStep p q f b1 b2 b3 b4 m.1.1 m.1.2 c with
 | none => none
 | some (k, w, u) => (match cntM ts m.2 k (sg c) with
   | none => none
   | some n => some ((w, u), n))
def mrkV (K : PySem.W.Frag) (x : Option Mrk) (H : Hp) (v : V) : Prop := match x with
 | none => v = .non
 | some m => MrkAt K H m v

theorem toks_mono {K : PySem.W.Frag} {H H' : Hp} (s : Same H H') : ∀ {ys : List V} {ts : List (Str × Str)}, Paired (RelT K H) ys ts → Paired (RelT K H') ys ts
 | _, _, .nil => .nil
 | _, _, .cons a r => .cons (a.mono s) (toks_mono s r)
def usM (p q f : Str) : Str := specM ((p ++ q) ++ f) ++ Str.ofString "\n" ++ Str.ofString " "
def ledM (p q f : Str) (b1 b2 b3 b4 : Bool) (ts : List (Str × Str)) (m : Mrk) : List (Nat × Mrk) := match ts[m.2]? with
 | none => []
 | some t => (specM (usM p q f ++ t.2)).cps.toList.filterMap fun c => (mrkM p q f b1 b2 b3 b4 ts m c).map fun m' => (c, m')
theorem MrkAt.but {K : PySem.W.Frag} {H : Hp} {m : Mrk} {v : V} {l : Addr} {ws : List V} {o : HO} (hl : H l = some (.lst ws)) (h : MrkAt K H m v) : MrkAt K (upd H l o) m v := by
 obtain ⟨b, s, e1, e2, e3⟩ := h
 exact ⟨b, s, e1, sqt_but hl e2, sqt_but hl e3⟩
theorem mrkV.mono {K : PySem.W.Frag} {x : Option Mrk} {H H' : Hp} {v : V} (s : Same H H') (h : mrkV K x H v) : mrkV K x H' v := by
 cases x with
 | none => exact h
 | some m => exact MrkAt.mono s h
theorem mrkV.but {K : PySem.W.Frag} {x : Option Mrk} {H : Hp} {v : V} {l : Addr} {ws : List V} {o : HO} (hl : H l = some (.lst ws)) (h : mrkV K x H v) : mrkV K x (upd H l o) v := by
 cases x with
 | none => exact h
 | some m => exact MrkAt.but hl h
abbrev Cm := List (Mrk × Option (Mrk × Nat))
def hasC (cm : Cm) (m : Mrk) : Bool := cm.any fun e => decide (e.1 = m)
theorem MrkAt.keep {K : PySem.W.Frag} {H H' : Hp} {m : Mrk} {v : V} (t : ∀ b xs, SqT K H b xs → SqT K H' b xs) (h : MrkAt K H m v) : MrkAt K H' m v := by
 obtain ⟨b, s, e1, e2, e3⟩ := h
 exact ⟨b, s, e1, t _ _ e2, t _ _ e3⟩
def m0 : Mrk := ((Str.ofString "row", Str.ofString ""), 0)
def valC (cm : Cm) (m : Mrk) : Option (Option (Mrk × Nat)) := (cm.find? fun e => decide (e.1 = m)).map (·.2)
inductive LinkC (cm : Cm) : Option (Mrk × Nat) → List Nat → Prop where
 | nil : LinkC cm none []
 | cons {m : Mrk} {c : Nat} {x : Option (Mrk × Nat)} {r : List Nat} : valC cm m = some x → LinkC cm x r → LinkC cm (some (m, c)) (c :: r)
theorem sgs_sum : ∀ (xs : List Nat), ((xs.map sg).map (·.length)).sum = xs.length
 | [] => rfl
 | x :: xs => by rw [List.map_cons, List.map_cons, List.sum_cons, sgs_sum xs, sg_len, List.length_cons]; omega
inductive WalkC (led : Mrk → List (Nat × Mrk)) (a : Mrk) : List Nat → Mrk → Prop where
 | nil : WalkC led a [] a
 | snoc {xs : List Nat} {p q : Mrk} {c : Nat} : WalkC led a xs p → (c, q) ∈ led p → WalkC led a (xs ++ [c]) q
theorem valC_app {cm l : Cm} {m : Mrk} {x : Option (Mrk × Nat)} (h : valC cm m = some x) : valC (cm ++ l) m = some x := by
 unfold valC at h ⊢
 rw [List.find?_append]
 cases e : cm.find? fun e => decide (e.1 = m) with
 | none => rw [e] at h; cases h
 | some y => rw [e] at h; exact h
theorem LinkC.app {cm l : Cm} {x : Option (Mrk × Nat)} {xs : List Nat} (h : LinkC cm x xs) : LinkC (cm ++ l) x xs := by
 induction h with
 | nil => exact .nil
 | cons e _ ih => exact .cons (valC_app e) ih
def ToldC (led : Mrk → List (Nat × Mrk)) (a : Mrk) (cm : Cm) (m : Mrk) (n : Nat) : Prop := ∃ x xs, valC cm m = some x ∧ LinkC cm x xs ∧ WalkC led a xs.reverse m ∧ xs.length = n
theorem ToldC.app {led : Mrk → List (Nat × Mrk)} {a m : Mrk} {cm l : Cm} {n : Nat} (h : ToldC led a cm m n) : ToldC led a (cm ++ l) m n := by
 obtain ⟨x, xs, h1, h2, h3, h4⟩ := h
 exact ⟨x, xs, valC_app h1, h2.app, h3, h4⟩
section
variable {good : Mrk → Bool} {led : Mrk → List (Nat × Mrk)} {a : Mrk}
structure Mid (led : Mrk → List (Nat × Mrk)) (a : Mrk) (cm : Cm) (k : Nat) (acc : Cm × List Mrk) : Prop where
 pre : ∃ l, acc.1 = cm ++ l
 told : ∀ m, hasC acc.1 m = true → ∃ n, n ≤ k + 1 ∧ ToldC led a acc.1 m n
 new : ∀ m ∈ acc.2, ToldC led a acc.1 m (k + 1) ∧ hasC acc.1 m = true
 old : ∀ m, hasC acc.1 m = true → hasC cm m = true ∨ m ∈ acc.2
end

def Shp (p q f u : Str) (c : Nat) (k w' u' : Str) : Prop :=
 (k = Str.ofString "skip" ∧ (inS c f = true ∨ inS c q = true ∨ isS (sg c) u = true ∨ isS (sg c) (Str.ofString " ") = true)) ∨ (k = Str.ofString "end" ∧ isS (sg c) (Str.ofString "\n") = true ∧ w' = Str.ofString "row" ∧ u' = Str.ofString "") ∨ (k = Str.ofString "part" ∧ inS c p = true) ∨ k = Str.ofString "put"
theorem step_shp {p q f : Str} {b1 b2 b3 b4 : Bool} {w u k w' u' : Str} {c : Nat} (h : stepM p q f b1 b2 b3 b4 w u c = .go k w' u') : Shp p q f u c k w' u' := by
 have hB : mBehind p b3 c = .go k w' u' → Shp p q f u c k w' u' := by
   intro h
   unfold mBehind at h
   repeat' split at h
   all_goals first
     | (cases h; done)
     | (cases h; exact .inr (.inl ⟨rfl, by assumption, rfl, rfl⟩))
     | (cases h; exact .inr (.inr (.inl ⟨rfl, by assumption⟩)))
     | (cases h; exact .inl ⟨rfl, .inr (.inr (.inr (by assumption)))⟩)
 unfold stepM at h
 split at h
 · unfold mWithin at h
   repeat' split at h
   all_goals first
     | (cases h; done)
     | (cases h; exact .inr (.inr (.inr rfl)))
     | (cases h; exact .inl ⟨rfl, .inl (by assumption)⟩)
     | (cases h; exact .inl ⟨rfl, .inr (.inr (.inl (by assumption)))⟩)
 split at h
 · unfold mFreed mFreedX at h
   repeat' split at h
   all_goals first
     | (cases h; done)
     | (cases h; exact .inr (.inr (.inr rfl)))
 split at h
 · unfold mDoubt at h
   split at h
   · cases h; exact .inr (.inr (.inr rfl))
   · exact hB h
 split at h
 · exact hB h
 unfold mOpen at h
 split at h
 · unfold mPlain at h
   repeat' split at h
   all_goals first
     | (cases h; done)
     | (cases h; exact .inr (.inr (.inr rfl)))
     | (cases h; exact .inr (.inl ⟨rfl, by assumption, rfl, rfl⟩))
     | (cases h; exact .inr (.inr (.inl ⟨rfl, by assumption⟩)))
     | (cases h; exact .inl ⟨rfl, .inl (by assumption)⟩)
 · unfold mBegin at h
   repeat' split at h
   all_goals first
     | (cases h; done)
     | (cases h; exact .inr (.inr (.inr rfl)))
     | (cases h; exact .inr (.inl ⟨rfl, by assumption, rfl, rfl⟩))
     | (cases h; exact .inr (.inr (.inl ⟨rfl, by assumption⟩)))
     | (cases h; exact .inl ⟨rfl, .inl (by assumption)⟩)
     | (cases h; exact .inl ⟨rfl, .inr (.inl (by assumption))⟩)
     | (cases h; exact .inl ⟨rfl, .inr (.inr (.inr (by assumption)))⟩)
theorem ends_skip : ¬ Str.ofString "skip" = Str.ofString "end" := ne_ofS (by decide +kernel)
theorem ends_put : ¬ Str.ofString "put" = Str.ofString "end" := ne_ofS (by decide +kernel)
theorem ends_part : ¬ Str.ofString "part" = Str.ofString "end" := ne_ofS (by decide +kernel)
theorem step_rowE {p q f : Str} {b1 b2 b3 b4 : Bool} {w u w' u' : Str} {c : Nat} (h : stepM p q f b1 b2 b3 b4 w u c = .go (Str.ofString "end") w' u') : (w', u') = (Str.ofString "row", Str.ofString "") := by
 rcases step_shp h with ⟨z, _⟩ | ⟨_, _, e1, e2⟩ | ⟨z, _⟩ | z
 · exact absurd z.symm ends_skip
 · rw [e1, e2]
 · exact absurd z.symm ends_part
 · exact absurd z.symm ends_put
def EndsE (ts : List (Str × Str)) : Prop := ∀ n, n + 1 = ts.length → ts[n]? = some endT
theorem sg_injW {a b : Nat} (h : sg a = sg b) : a = b := by
 have e : (sg a).cps.toList = (sg b).cps.toList := by rw [h]
 exact (List.cons.inj e).1
theorem specL_mem {c : Nat} : ∀ (l : List Nat) (acc : List Nat), c ∈ l.foldl stepS acc ↔ c ∈ acc ∨ c ∈ l
 | [], acc => by simp
 | a :: l, acc => by
   rw [List.foldl_cons, specL_mem l]
   unfold stepS
   by_cases h : away ⟨acc.toArray⟩ a = true
   · rw [if_pos h, List.mem_append, List.mem_singleton, List.mem_cons, or_assoc]
   · rw [if_neg h]
     have ha : a ∈ acc := by
       by_cases z : a ∈ acc
       · exact z
       · exact absurd ((away_iff _ _).mpr (by simpa using z)) h
     rw [List.mem_cons]
     constructor
     · rintro (z | z)
       · exact .inl z
       · exact .inr (.inr z)
     · rintro (z | z | z)
       · exact .inl z
       · subst z; exact .inl ha
       · exact .inr z
theorem specM_mem {c : Nat} {z : Str} : c ∈ (specM z).cps.toList ↔ c ∈ z.cps.toList := by
 show c ∈ (specL z.cps.toList).toArray.toList ↔ _
 unfold specL
 rw [show ((z.cps.toList.foldl stepS []).toArray).toList = z.cps.toList.foldl stepS [] from rfl, specL_mem]
 simp
theorem us_mem {p q f : Str} {c : Nat} : c ∈ (usM p q f).cps.toList ↔ c ∈ p.cps.toList ∨ c ∈ q.cps.toList ∨ c ∈ f.cps.toList ∨ c = 10 ∨ c = 32 := by
 unfold usM
 rw [app_list, app_list, List.mem_append, List.mem_append, specM_mem, app_list, app_list, List.mem_append, List.mem_append]
 have e1 : (Str.ofString "\n").cps.toList = [10] := by decide +kernel
 have e2 : (Str.ofString " ").cps.toList = [32] := by decide +kernel
 rw [e1, e2, List.mem_singleton, List.mem_singleton]
 simp only [or_assoc]
def tkM : List Str → List Nat → List (Str × Str)
 | k :: ks, c :: cs => (if isS k (Str.ofString "skip") = true then [] else [(k, if isS k (Str.ofString "put") = true then sg c else Str.ofString "")]) ++ tkM ks cs
 | _, _ => []
theorem sgn10 {c : Nat} (h : isS (sg c) (Str.ofString "\n") = true) : c = 10 := sg_injW ((isS_eq h).trans (by decide +kernel))
theorem sgn32 {c : Nat} (h : isS (sg c) (Str.ofString " ") = true) : c = 32 := sg_injW ((isS_eq h).trans (by decide +kernel))
theorem tried {p q f : Str} {b1 b2 b3 b4 : Bool} {ts : List (Str × Str)} {w u k w' u' : Str} {c n n' : Nat} (hq : StOk q w u) (hs : stepM p q f b1 b2 b3 b4 w u c = .go k w' u') (hl : liveM f w' u' = true) (hn : n < ts.length) (hc : cntM ts n k (sg c) = some n') : (c, ((w', u'), n')) ∈ ledM p q f b1 b2 b3 b4 ts ((w, u), n) := by
 have hm : mrkM p q f b1 b2 b3 b4 ts ((w, u), n) c = some ((w', u'), n') := by
   unfold mrkM liveStep
   dsimp only
   rw [hs]
   dsimp only
   rw [if_pos hl]
   dsimp only
   rw [hc]
 unfold ledM
 obtain ⟨t, ht⟩ : ∃ t, ts[n]? = some t := ⟨ts[n], List.getElem?_eq_getElem hn⟩
 dsimp only
 rw [ht]
 refine List.mem_filterMap.mpr ⟨c, ?_, by rw [hm]; rfl⟩
 rw [specM_mem, app_list, List.mem_append, us_mem]
 rcases step_shp hs with ⟨e, z⟩ | ⟨e, z, _⟩ | ⟨e, z⟩ | e
 · rcases z with z | z | z | z
   · exact .inl (.inr (.inr (.inl (in_q z))))
   · exact .inl (.inr (.inl (in_q z)))
   · rcases hq with ⟨rfl, _⟩ | ⟨d, hd, rfl, _⟩
     · exact absurd z (sg_ne c)
     · rw [sg_injW (isS_eq z)]; exact .inl (.inr (.inl hd))
   · exact .inl (.inr (.inr (.inr (.inr (sgn32 z)))))
 · exact .inl (.inr (.inr (.inr (.inl (sgn10 z)))))
 · exact .inl (.inl (in_q z))
 · subst e
   unfold cntM at hc
   rw [if_neg (ns (by decide +kernel)), if_pos (isS_self _), ht] at hc
   by_cases e : some t = some (Str.ofString "put", sg c)
   · injection e with e
     right
     rw [e]
     exact List.mem_singleton.mpr rfl
   · rw [if_neg e] at hc; cases hc
theorem dead_step {p q f : Str} {b1 b2 b3 b4 : Bool} {w u k w' u' : Str} {c : Nat} (h : StOk q w u) (hl : liveM f w u = false) (hs : stepM p q f b1 b2 b3 b4 w u c = .go k w' u') : liveM f w' u' = false := by
 have key : ∀ {d : Nat} {w : Str}, (w = Str.ofString "within" ∨ w = Str.ofString "freed") → inS d f = true → liveM f w (sg d) = false := by
   intro d w hw hd
   unfold liveM
   have e : nin (sg d) f = !(inS d f) := rfl
   rcases hw with rfl | rfl
   · rw [if_neg (sg_ne d), if_neg (ns (by decide +kernel)), e, hd]; rfl
   · rw [if_neg (sg_ne d), if_neg (ns (by decide +kernel)), e, hd]; rfl
 have hdf : ∀ {d : Nat} {w : Str}, liveM f w (sg d) = false → inS d f = true := by
   intro d w hl
   unfold liveM at hl
   rw [if_neg (sg_ne d)] at hl
   split at hl
   · cases hl
   · have e : nin (sg d) f = !(inS d f) := rfl
     rw [e] at hl
     cases hx : inS d f with
     | true => rfl
     | false => rw [hx] at hl; cases hl
 rcases h with ⟨rfl, _⟩ | ⟨d, hd, rfl, rfl | rfl | rfl⟩
 · unfold liveM at hl; rw [if_pos (isS_self _)] at hl; cases hl
 · have hf := hdf hl
   rw [sm_within (isS_self _)] at hs
   unfold mWithin at hs
   by_cases hcf : inS c f = true
   · rw [if_pos hcf] at hs; cases hs; exact key (.inr rfl) hf
   · rw [if_neg hcf] at hs
     have hcd : ¬ isS (sg c) (sg d) = true := fun z => by rw [sg_injW (isS_eq z)] at hcf; exact hcf hf
     rw [if_neg hcd] at hs
     repeat' split at hs
     all_goals first
       | (cases hs; done)
       | (cases hs; exact key (.inl rfl) hf)
 · unfold liveM at hl; rw [if_neg (sg_ne d), if_pos (isS_self _)] at hl; cases hl
 · have hf := hdf hl
   rw [sm_freed (isS_self _)] at hs
   unfold mFreed mFreedX at hs
   rw [if_neg (sg_ne d)] at hs
   repeat' split at hs
   all_goals first
     | (cases hs; done)
     | (cases hs; exact key (.inl rfl) hf)
theorem row_live (f : Str) : liveM f (Str.ofString "row") (Str.ofString "") = true := by unfold liveM; rw [if_pos (isS_self _)]
theorem dead_run {p q f : Str} {b1 b2 b3 b4 : Bool} : ∀ {cs : List Nat} {w u : Str}, StOk q w u → liveM f w u = false → (runM p q f b1 b2 b3 b4 w u cs).2 ≠ (Str.ofString "row", Str.ofString "", none)
 | [], w, u, _, hl => fun e => by
   have e : (w, u, (none : Option Str)) = (Str.ofString "row", Str.ofString "", none) := e
   injection e with e1 e2
   injection e2 with e2 _
   rw [e1, e2, row_live] at hl
   cases hl
 | c :: cs, w, u, h, hl => by
   unfold runM
   cases hs : stepM p q f b1 b2 b3 b4 w u c with
   | flt e => dsimp only; intro z; injection z with _ z; injection z with _ z; cases z
   | go k w' u' => exact dead_run (step_ok h hs) (dead_step h hl hs)
theorem walk_of_run {p q f : Str} {b1 b2 b3 b4 : Bool} {ts : List (Str × Str)} {a : Mrk} (he : EndsE ts) : ∀ {cs : List Nat} {w u : Str} {n : Nat} {pre : List Nat}, StOk q w u → WalkC (ledM p q f b1 b2 b3 b4 ts) a pre ((w, u), n) → n ≤ ts.length → (n = ts.length → (w, u) = (Str.ofString "row", Str.ofString "")) →
   (runM p q f b1 b2 b3 b4 w u cs).2 = (Str.ofString "row", Str.ofString "", none) → ts.drop n = tkM (runM p q f b1 b2 b3 b4 w u cs).1 cs → ∃ ds, ds.length ≤ cs.length ∧ WalkC (ledM p q f b1 b2 b3 b4 ts) a (pre ++ ds) ((Str.ofString "row", Str.ofString ""), ts.length) := by
 intro cs
 induction cs with
 | nil =>
   intro w u n pre hq hw hn hr _ ht
   have e : n = ts.length := by
     have : (ts.drop n).length = 0 := by rw [ht]; rfl
     rw [List.length_drop] at this
     omega
   have hr := hr e
   rw [e, hr] at hw
   exact ⟨[], Nat.le_refl _, by rw [List.append_nil]; exact hw⟩
 | cons c cs ih =>
   intro w u n pre hq hw hn hr hrun ht
   by_cases e : n = ts.length
   · have hr := hr e
     rw [e, hr] at hw
     exact ⟨[], Nat.zero_le _, by rw [List.append_nil]; exact hw⟩
   have hlt : n < ts.length := by omega
   unfold runM at hrun ht
   cases hs : stepM p q f b1 b2 b3 b4 w u c with
   | flt e => rw [hs] at hrun; dsimp only at hrun; injection hrun with _ z; injection z with _ z; cases z
   | go k w' u' =>
     rw [hs] at hrun ht
     dsimp only at hrun ht
     have hl : liveM f w' u' = true := by
       cases z : liveM f w' u' with
       | true => rfl
       | false => exact absurd hrun (dead_run (step_ok hq hs) z)
     unfold tkM at ht
     by_cases hk : isS k (Str.ofString "skip") = true
     · rw [if_pos hk, List.nil_append] at ht
       have hc : cntM ts n k (sg c) = some n := by unfold cntM; rw [if_pos hk]
       obtain ⟨ds, h1, h2⟩ := ih (step_ok hq hs) (.snoc hw (tried hq hs hl hlt hc)) hn (fun z => absurd z e) hrun ht
       exact ⟨c :: ds, Nat.succ_le_succ h1, by rw [List.append_assoc] at h2; exact h2⟩
     · rw [if_neg hk] at ht
       have hx : ts[n]? = some (k, if isS k (Str.ofString "put") = true then sg c else Str.ofString "") := by
         have := congrArg List.head? ht
         rw [List.head?_drop] at this
         exact this
       have hd : ts.drop (n + 1) = tkM (runM p q f b1 b2 b3 b4 w' u' cs).1 cs := by
         have := congrArg List.tail ht
         rw [List.tail_drop] at this
         exact this
       have hc : cntM ts n k (sg c) = some (n + 1) := by unfold cntM; rw [if_neg hk, if_pos hx]
       have hrow : n + 1 = ts.length → (w', u') = (Str.ofString "row", Str.ofString "") := fun z => by
         have e1 := he n z
         rw [hx] at e1
         have hk : k = Str.ofString "end" := by injection e1 with e1; exact congrArg Prod.fst e1
         rw [hk] at hs
         exact step_rowE hs
       obtain ⟨ds, h1, h2⟩ := ih (step_ok hq hs) (.snoc hw (tried hq hs hl hlt hc)) hlt hrow hrun hd
       exact ⟨c :: ds, Nat.succ_le_succ h1, by rw [List.append_assoc] at h2; exact h2⟩
theorem tkM_app : ∀ {ks : List Str} {cs : List Nat} {ks' : List Str} {cs' : List Nat}, ks.length = cs.length → tkM (ks ++ ks') (cs ++ cs') = tkM ks cs ++ tkM ks' cs'
 | [], [], _, _, _ => rfl
 | k :: ks, c :: cs, ks', cs', h => by
   show _ ++ tkM (ks ++ ks') (cs ++ cs') = (_ ++ tkM ks cs) ++ _
   rw [tkM_app (by simpa using h), List.append_assoc]
theorem run_klen {p q f : Str} {b1 b2 b3 b4 : Bool} : ∀ {cs : List Nat} {w u : Str}, (runM p q f b1 b2 b3 b4 w u cs).2.2.2 = none → (runM p q f b1 b2 b3 b4 w u cs).1.length = cs.length
 | [], _, _, _ => rfl
 | c :: cs, w, u, h => by
   unfold runM at h ⊢
   cases hs : stepM p q f b1 b2 b3 b4 w u c with
   | flt e => rw [hs] at h; cases h
   | go k w' u' => rw [hs] at h; show _ + 1 = _ + 1; rw [run_klen h]
section
variable {p q f : Str} {b1 b2 b3 b4 : Bool}
def Rd0 (p q f : Str) (b1 b2 b3 b4 : Bool) (w u : Str) (ts : List (Str × Str)) (cs : List Nat) : Prop := (runM p q f b1 b2 b3 b4 w u cs).2 = (Str.ofString "row", Str.ofString "", none) ∧ tkM (runM p q f b1 b2 b3 b4 w u cs).1 cs = ts
abbrev RdT (p q f : Str) (b1 b2 b3 b4 : Bool) (ts : List (Str × Str)) (cs : List Nat) : Prop := Rd0 p q f b1 b2 b3 b4 (Str.ofString "row") (Str.ofString "") ts cs
theorem RdT.walk {ts : List (Str × Str)} {cs : List Nat} (he : EndsE ts) (h : RdT p q f b1 b2 b3 b4 ts cs) : ∃ ds, ds.length ≤ cs.length ∧ WalkC (ledM p q f b1 b2 b3 b4 ts) m0 ds ((Str.ofString "row", Str.ofString ""), ts.length) :=
 walk_of_run (pre := []) he (.inl ⟨rfl, .inl rfl⟩) .nil (Nat.zero_le _) (fun _ => rfl) h.1 (by rw [h.2]; rfl)
theorem RdT.app {ts ts' : List (Str × Str)} {cs cs' : List Nat} (h : RdT p q f b1 b2 b3 b4 ts cs) (h' : RdT p q f b1 b2 b3 b4 ts' cs') : RdT p q f b1 b2 b3 b4 (ts ++ ts') (cs ++ cs') := by
 have h0 : (runM p q f b1 b2 b3 b4 (Str.ofString "row") (Str.ofString "") cs).2.2.2 = none := by rw [h.1]
 have ea := run_appZ (ds := cs') h0
 rw [h.1] at ea
 dsimp only at ea
 refine ⟨by rw [ea]; exact h'.1, ?_⟩
 rw [ea]
 show tkM (_ ++ _) (cs ++ cs') = _
 rw [tkM_app (run_klen h0), h.2, h'.2]
theorem Rd0.split {ts ts' : List (Str × Str)} : ∀ {cs : List Nat} {w u : Str}, EndsE ts → (ts = [] → (w, u) = (Str.ofString "row", Str.ofString "")) → Rd0 p q f b1 b2 b3 b4 w u (ts ++ ts') cs → ∃ c1 c2, cs = c1 ++ c2 ∧ Rd0 p q f b1 b2 b3 b4 w u ts c1 ∧ RdT p q f b1 b2 b3 b4 ts' c2 := by
 intro cs
 induction cs generalizing ts with
 | nil =>
   intro w u he hr h
   have e : ts ++ ts' = [] := h.2.symm
   obtain ⟨e1, e2⟩ := List.append_eq_nil_iff.mp e
   subst e1 e2
   exact ⟨[], [], rfl, h, rfl, rfl⟩
 | cons c cs ih =>
   intro w u he hr h
   cases ts with
   | nil =>
     have e := hr rfl
     injection e with e1 e2
     subst e1 e2
     exact ⟨[], c :: cs, rfl, ⟨rfl, rfl⟩, h⟩
   | cons t ts =>
     obtain ⟨h1, h2⟩ := h
     unfold runM at h1 h2
     cases hs : stepM p q f b1 b2 b3 b4 w u c with
     | flt e => rw [hs] at h1; dsimp only at h1; injection h1 with _ z; injection z with _ z; cases z
     | go k w' u' =>
       rw [hs] at h1 h2
       dsimp only at h1 h2
       unfold tkM at h2
       have hrun : ∀ c1, runM p q f b1 b2 b3 b4 w u (c :: c1) = (k :: (runM p q f b1 b2 b3 b4 w' u' c1).1, (runM p q f b1 b2 b3 b4 w' u' c1).2) := fun c1 => by
         show (match stepM p q f b1 b2 b3 b4 w u c with | .flt e => ([], w, u, some e) | .go k w' u' => (k :: (runM p q f b1 b2 b3 b4 w' u' c1).1, (runM p q f b1 b2 b3 b4 w' u' c1).2)) = _
         rw [hs]
       by_cases hk : isS k (Str.ofString "skip") = true
       · rw [if_pos hk, List.nil_append] at h2
         obtain ⟨c1, c2, e, g1, g2⟩ := ih (ts := t :: ts) he (fun z => nomatch z) ⟨h1, h2⟩
         refine ⟨c :: c1, c2, by rw [e]; rfl, ⟨by rw [hrun]; exact g1.1, ?_⟩, g2⟩
         rw [hrun]
         unfold tkM
         rw [if_pos hk, List.nil_append]
         exact g1.2
       · rw [if_neg hk] at h2
         have h2 : (k, if isS k (Str.ofString "put") = true then sg c else Str.ofString "") :: tkM (runM p q f b1 b2 b3 b4 w' u' cs).1 cs = t :: (ts ++ ts') := h2
         injection h2 with e1 e2
         have he' : EndsE ts := fun n hn => by
           have := he (n + 1) (by rw [List.length_cons, ← hn])
           rw [List.getElem?_cons_succ] at this
           exact this
         obtain ⟨c1, c2, e, g1, g2⟩ := ih (ts := ts) he' (fun z => by
           subst z
           have := he 0 rfl
           have e3 : t = endT := by simpa using this
           rw [e3] at e1
           have hk : k = Str.ofString "end" := congrArg Prod.fst e1
           rw [hk] at hs
           exact step_rowE hs) ⟨h1, e2⟩
         refine ⟨c :: c1, c2, by rw [e]; rfl, ⟨by rw [hrun]; exact g1.1, ?_⟩, g2⟩
         rw [hrun]
         unfold tkM
         rw [if_neg hk, g1.2, e1]
         rfl
end
def groT (g : Gro) (t : Str × Str) : Gro :=
 if isS t.1 (Str.ofString "put") = true then ⟨g.rows, g.row, g.cell ++ t.2⟩
 else if isS t.1 (Str.ofString "part") = true then ⟨g.rows, g.row ++ [g.cell], Str.ofString ""⟩
 else if isS t.1 (Str.ofString "end") = true then ⟨g.rows ++ [g.row ++ [g.cell]], [], Str.ofString ""⟩
 else g
theorem gro_tok {g : Gro} {c : Nat} {k : Str} : gro g c k = (if isS k (Str.ofString "skip") = true then [] else [(k, if isS k (Str.ofString "put") = true then sg c else Str.ofString "")]).foldl groT g := by
 by_cases hk : isS k (Str.ofString "skip") = true
 · rw [if_pos hk, isS_eq hk]
   unfold gro
   rw [if_neg (ns (by decide +kernel)), if_neg (ns (by decide +kernel)), if_neg (ns (by decide +kernel))]
   rfl
 · rw [if_neg hk]
   show _ = groT g _
   unfold gro groT
   dsimp only
   by_cases hp : isS k (Str.ofString "put") = true
   · rw [if_pos hp, if_pos hp, if_pos hp]
   · rw [if_neg hp, if_neg hp]
theorem groL_tok : ∀ {cs : List Nat} {ks : List Str} {g : Gro}, groL g cs ks = (tkM ks cs).foldl groT g
 | [], [], _ => rfl
 | [], _ :: _, _ => rfl
 | _ :: _, [], _ => rfl
 | c :: cs, k :: ks, g => by
   show groL (gro g c k) cs ks = ((if _ then _ else _) ++ tkM ks cs).foldl groT g
   rw [List.foldl_append, ← gro_tok, groL_tok]
theorem puts_snoc (z : Str) (c : Nat) : puts (z ++ sg c) = puts z ++ [(Str.ofString "put", sg c)] := by
 unfold puts
 rw [app_list, List.map_append]
 rfl
theorem tokC_pre {r s : List Str} : ∀ {n : Nat}, n ≤ r.length → tokC (r ++ s) n = tokC r n
 | 0, _ => rfl
 | n + 1, h => by
   show tokC (r ++ s) n ++ (_ ++ puts ((r ++ s).getD n _)) = tokC r n ++ (_ ++ puts (r.getD n _))
   rw [tokC_pre (Nat.le_of_succ_le h), List.getD_eq_getElem?_getD, List.getD_eq_getElem?_getD, List.getElem?_append_left h]
theorem tokC_last {r : List Str} {z : Str} : tokC (r ++ [z]) (r.length + 1) = tokC r r.length ++ ((if r.length = 0 then [] else [partT]) ++ puts z) := by
 rw [tokC_succ (z := z) (by simp), tokC_pre (Nat.le_refl _)]
def tokG (g : Gro) : List (Str × Str) := tokTab g.rows ++ tokC (g.row ++ [g.cell]) (g.row.length + 1)
def TokK (t : Str × Str) : Prop := (∃ c, t = (Str.ofString "put", sg c)) ∨ t = partT ∨ t = endT
theorem puts_em : puts (Str.ofString "") = [] := by decide +kernel
theorem tokG_step {g : Gro} {t : Str × Str} (h : TokK t) : tokG (groT g t) = tokG g ++ [t] := by
 rcases h with ⟨c, rfl⟩ | rfl | rfl
 · unfold groT tokG
   dsimp only
   rw [if_pos (isS_self _)]
   dsimp only
   rw [tokC_last, tokC_last, puts_snoc]
   simp only [List.append_assoc]
 · unfold groT tokG
   rw [show partT.1 = Str.ofString "part" from rfl, if_neg (ns (by decide +kernel)), if_pos (isS_self _)]
   dsimp only
   rw [tokC_last (r := g.row ++ [g.cell]), puts_em, if_neg (by simp), List.length_append]
   simp only [List.append_assoc, List.append_nil]
   rfl
 · unfold groT tokG
   rw [show endT.1 = Str.ofString "end" from rfl, if_neg (ns (by decide +kernel)), if_neg (ns (by decide +kernel)), if_pos (isS_self _)]
   dsimp only
   rw [tokTab_snoc]
   unfold tokRow
   rw [List.length_append]
   have e : tokC ([] ++ [Str.ofString ""]) (([] : List Str).length + 1) = [] := by rw [tokC_last, puts_em]; rfl
   rw [e, List.append_nil, List.append_assoc]
   rfl
theorem tokG_steps : ∀ {ts : List (Str × Str)} {g : Gro}, (∀ t ∈ ts, TokK t) → tokG (ts.foldl groT g) = tokG g ++ ts
 | [], _, _ => (List.append_nil _).symm
 | t :: ts, g, h => by
   rw [List.foldl_cons, tokG_steps fun t z => h t (List.mem_cons_of_mem _ z), tokG_step (h t (List.mem_cons_self ..)), List.append_assoc]
   rfl
theorem tkM_ok {p q f : Str} {b1 b2 b3 b4 : Bool} : ∀ {cs : List Nat} {w u : Str}, ∀ t ∈ tkM (runM p q f b1 b2 b3 b4 w u cs).1 cs, TokK t
 | [], w, u, t, h => nomatch h
 | c :: cs, w, u, t, h => by
   unfold runM at h
   cases hs : stepM p q f b1 b2 b3 b4 w u c with
   | flt e => rw [hs] at h; cases h
   | go k w' u' =>
     rw [hs] at h
     dsimp only at h
     unfold tkM at h
     rcases List.mem_append.mp h with z | z
     · by_cases hk : isS k (Str.ofString "skip") = true
       · rw [if_pos hk] at z; cases z
       · rw [if_neg hk] at z
         have z := List.mem_singleton.mp z
         rcases step_shp hs with ⟨e, _⟩ | ⟨e, _⟩ | ⟨e, _⟩ | e
         · rw [e, isS_self] at hk; exact absurd rfl hk
         · subst e; rw [if_neg (ns (by decide +kernel))] at z; exact .inr (.inr z)
         · subst e; rw [if_neg (ns (by decide +kernel))] at z; exact .inr (.inl z)
         · subst e; rw [if_pos (isS_self _)] at z; exact .inl ⟨c, z⟩
     · exact tkM_ok t z
theorem tok_read {p q f : Str} {b1 b2 b3 b4 : Bool} {z : Str} (h : (runM p q f b1 b2 b3 b4 (Str.ofString "row") (Str.ofString "") z.cps.toList).2 = (Str.ofString "row", Str.ofString "", none)) : RdT p q f b1 b2 b3 b4 (tokTab (tabM z (runM p q f b1 b2 b3 b4 (Str.ofString "row") (Str.ofString "") z.cps.toList).1)) z.cps.toList := by
 refine ⟨h, ?_⟩
 have h1 : (runM p q f b1 b2 b3 b4 (Str.ofString "row") (Str.ofString "") z.cps.toList).2.2.2 = none := by rw [h]
 have h2 : (runM p q f b1 b2 b3 b4 (Str.ofString "row") (Str.ofString "") z.cps.toList).2.1 = Str.ofString "row" := by rw [h]
 obtain ⟨c1, c2⟩ := row_clean (g := gro0) (fun _ => ⟨rfl, rfl⟩) h1 h2
 have e := tokG_steps (g := gro0) (tkM_ok (p := p) (q := q) (f := f) (b1 := b1) (b2 := b2) (b3 := b3) (b4 := b4) (cs := z.cps.toList) (w := Str.ofString "row") (u := Str.ofString ""))
 rw [← groL_tok] at e
 have e0 : tokC ([] ++ [Str.ofString ""]) (([] : List Str).length + 1) = [] := by rw [tokC_last, puts_em]; rfl
 have g0 : tokG gro0 = [] := e0
 rw [g0, List.nil_append] at e
 rw [← e]
 unfold tokG
 rw [c1, c2, e0, List.append_nil]
 rfl
theorem tab_same {p q f : Str} {b1 b2 b3 b4 : Bool} {z : Str} {ts : List (Str × Str)} (h : RdT p q f b1 b2 b3 b4 ts z.cps.toList) : tabM z (runM p q f b1 b2 b3 b4 (Str.ofString "row") (Str.ofString "") z.cps.toList).1 = (ts.foldl groT gro0).rows := by
 unfold tabM
 rw [groL_tok, h.2]
structure TabS (t : List (List Str)) : Prop where
 n : t.length ≤ 1000
 rl : ∀ r ∈ t, r.length ≤ 1000
 ok : ∀ r ∈ t, ∀ c ∈ r, cellOk c
 sum : total t ≤ 400
theorem TabOk.s {t : List (List Str)} (h : TabOk t) : TabS t := ⟨by have := h.n; omega, fun r hr => by have := (h.rows r hr).hi; omega, fun r hr => (h.rows r hr).ok, h.sum⟩

theorem rws_row {A H : Hp} {es : List V} {R : List (List Str)} (h : Rws A H es R) : Paired (RelRow H) es R := paired_imp (fun _ _ ⟨a, e1, _, e3⟩ => ⟨a, e1, e3⟩) h
theorem tabtop {K : PySem.W.Frag} {H : Hp} {l l2 : Addr} {es es2 : List V} {R : List (List Str)} (h1 : H l = some (.lst es)) (h2 : H l2 = some (.lst es2)) (r1 : Paired (RelRow H) es R) (r2 : Paired (RelRow H) es2 R) : TopD K H (.ref l) (.ref l2) :=
 ⟨1, l, l2, es, es2, rfl, rfl, by decide, r1.length.trans r2.length.symm, .inr ⟨SqL.of h1, SqL.of h2⟩, rows_same r1 r2⟩


theorem total_le {t s u : List (List Str)} (h : t = s ++ u) : total s ≤ total t ∧ total u ≤ total t := by
 subst h; unfold total; rw [List.map_append, List.sum_append]; omega
theorem TabOk.take {t : List (List Str)} (h : TabOk t) (i : Nat) : TabOk (t.take i) := by
 have := (total_le (List.take_append_drop i t).symm).1
 have := h.sum
 exact ⟨by rw [List.length_take]; have := h.n; omega, fun r hr => h.rows r (List.mem_of_mem_take hr), by omega⟩
theorem TabOk.drop {t : List (List Str)} (h : TabOk t) (i : Nat) : TabOk (t.drop i) := by
 have := (total_le (List.take_append_drop i t).symm).2
 have := h.sum
 exact ⟨by rw [List.length_drop]; have := h.n; omega, fun r hr => h.rows r (List.mem_of_mem_drop hr), by omega⟩
theorem cut_drop (xs : List V) (n : Nat) (h : n ≤ xs.length) : cutV xs (some (n : Int)) none = xs.drop n := by
 unfold cutV
 have e1 : HT.sIx xs.length xs.length none = xs.length := rfl
 have e2 : HT.sIx xs.length 0 (some (n : Int)) = n := by
   show (if (n : Int) < 0 then ((n : Int) + (xs.length : Int)).toNat else min (n : Int).toNat xs.length) = _
   rw [if_neg (by omega), Int.toNat_natCast]; omega
 rw [e1, e2, List.take_of_length_le (by rw [List.length_drop]; exact Nat.le_refl _)]
section
variable {good : Mrk → Bool} {led : Mrk → List (Nat × Mrk)} {a : Mrk}
end
section
variable {p q f : Str} {b1 b2 b3 b4 : Bool}
theorem dead_end : ∀ {cs : List Nat} {w u w' u' : Str}, StOk q w u → liveM f w u = false → (runM p q f b1 b2 b3 b4 w u cs).2 = (w', u', none) → liveM f w' u' = false
 | [], w, u, w', u', _, hl, e => by
   have e : (w, u, (none : Option Str)) = (w', u', none) := e
   injection e with e1 e2
   injection e2 with e2 _
   rw [← e1, ← e2]; exact hl
 | c :: cs, w, u, w', u', h, hl, e => by
   unfold runM at e
   cases hs : stepM p q f b1 b2 b3 b4 w u c with
   | flt e' => rw [hs] at e; dsimp only at e; injection e with _ z; injection z with _ z; cases z
   | go k w2 u2 => rw [hs] at e; exact dead_end (step_ok h hs) (dead_step h hl hs) e
def PR (p q f : Str) (b1 b2 b3 b4 : Bool) (w u : Str) (ts : List (Str × Str)) (cs : List Nat) (w' u' : Str) : Prop := (runM p q f b1 b2 b3 b4 w u cs).2 = (w', u', none) ∧ tkM (runM p q f b1 b2 b3 b4 w u cs).1 cs = ts
theorem RdT.pr {ts : List (Str × Str)} {cs : List Nat} : RdT p q f b1 b2 b3 b4 ts cs ↔ PR p q f b1 b2 b3 b4 (Str.ofString "row") (Str.ofString "") ts cs (Str.ofString "row") (Str.ofString "") := Iff.rfl
theorem PR.split {ts ts' : List (Str × Str)} {wE uE : Str} : ∀ {cs : List Nat} {w u : Str}, EndsE ts → (ts = [] → (w, u) = (Str.ofString "row", Str.ofString "")) → PR p q f b1 b2 b3 b4 w u (ts ++ ts') cs wE uE → ∃ c1 c2, cs = c1 ++ c2 ∧ Rd0 p q f b1 b2 b3 b4 w u ts c1 ∧ PR p q f b1 b2 b3 b4 (Str.ofString "row") (Str.ofString "") ts' c2 wE uE := by
 intro cs
 induction cs generalizing ts with
 | nil =>
   intro w u he hr h
   have e : ts ++ ts' = [] := h.2.symm
   obtain ⟨e1, e2⟩ := List.append_eq_nil_iff.mp e
   subst e1 e2
   have e := hr rfl
   injection e with e1 e2
   subst e1 e2
   exact ⟨[], [], rfl, ⟨rfl, rfl⟩, h⟩
 | cons c cs ih =>
   intro w u he hr h
   cases ts with
   | nil =>
     have e := hr rfl
     injection e with e1 e2
     subst e1 e2
     exact ⟨[], c :: cs, rfl, ⟨rfl, rfl⟩, h⟩
   | cons t ts =>
     obtain ⟨h1, h2⟩ := h
     unfold runM at h1 h2
     cases hs : stepM p q f b1 b2 b3 b4 w u c with
     | flt e => rw [hs] at h1; dsimp only at h1; injection h1 with _ z; injection z with _ z; cases z
     | go k w' u' =>
       rw [hs] at h1 h2
       dsimp only at h1 h2
       unfold tkM at h2
       have hrun : ∀ c1, runM p q f b1 b2 b3 b4 w u (c :: c1) = (k :: (runM p q f b1 b2 b3 b4 w' u' c1).1, (runM p q f b1 b2 b3 b4 w' u' c1).2) := fun c1 => run_go0 hs
       by_cases hk : isS k (Str.ofString "skip") = true
       · rw [if_pos hk, List.nil_append] at h2
         obtain ⟨c1, c2, e, g1, g2⟩ := ih (ts := t :: ts) he (fun z => nomatch z) ⟨h1, h2⟩
         refine ⟨c :: c1, c2, by rw [e]; rfl, ⟨by rw [hrun]; exact g1.1, ?_⟩, g2⟩
         rw [hrun]
         unfold tkM
         rw [if_pos hk, List.nil_append]
         exact g1.2
       · rw [if_neg hk] at h2
         have h2 : (k, if isS k (Str.ofString "put") = true then sg c else Str.ofString "") :: tkM (runM p q f b1 b2 b3 b4 w' u' cs).1 cs = t :: (ts ++ ts') := h2
         injection h2 with e1 e2
         have he' : EndsE ts := fun n hn => by
           have := he (n + 1) (by rw [List.length_cons, ← hn])
           rw [List.getElem?_cons_succ] at this
           exact this
         obtain ⟨c1, c2, e, g1, g2⟩ := ih (ts := ts) he' (fun z => by
           subst z
           have := he 0 rfl
           have e3 : t = endT := by simpa using this
           rw [e3] at e1
           have hk : k = Str.ofString "end" := congrArg Prod.fst e1
           rw [hk] at hs
           exact step_rowE hs) ⟨h1, e2⟩
         refine ⟨c :: c1, c2, by rw [e]; rfl, ⟨by rw [hrun]; exact g1.1, ?_⟩, g2⟩
         rw [hrun]
         unfold tkM
         rw [if_neg hk, g1.2, e1]
         rfl
end
def cells (t : List (List Str)) : Nat := (t.map List.length).sum
theorem cells_snoc (t : List (List Str)) (r : List Str) : cells (t ++ [r]) = cells t + r.length := by
 unfold cells; rw [List.map_append, List.sum_append]; simp
theorem cells_ge : ∀ {t : List (List Str)}, (∀ r ∈ t, RowOk r) → t.length ≤ cells t
 | [], _ => Nat.le_refl _
 | r :: t, h => by
   have ih := cells_ge (t := t) fun r' h' => h r' (List.mem_cons_of_mem _ h')
   have h1 := (h r (List.mem_cons_self ..)).lo
   unfold cells at ih ⊢
   rw [List.map_cons, List.sum_cons, List.length_cons]
   omega
theorem groT_puts (R : List (List Str)) (row : List Str) : ∀ (y z : Str), (puts y).foldl groT ⟨R, row, z⟩ = ⟨R, row, z ++ y⟩ := by
 intro y
 have key : ∀ (cs : List Nat) (z : Str), (cs.map fun k => (Str.ofString "put", sg k)).foldl groT ⟨R, row, z⟩ = ⟨R, row, z ++ ⟨cs.toArray⟩⟩ := by
   intro cs
   induction cs with
   | nil => intro z; show (⟨R, row, z⟩ : Gro) = _; rw [show z ++ (⟨[].toArray⟩ : Str) = z from str_ext (by rw [app_list]; simp)]
   | cons c cs ih =>
     intro z
     rw [List.map_cons, List.foldl_cons]
     have e : groT ⟨R, row, z⟩ (Str.ofString "put", sg c) = ⟨R, row, z ++ sg c⟩ := by unfold groT; dsimp only; rw [if_pos (isS_self _)]
     rw [e, ih]
     congr 1
     refine str_ext ?_
     rw [app_list, app_list, app_list]
     simp [sg]
 intro z
 have := key y.cps.toList z
 rw [show (⟨y.cps.toList.toArray⟩ : Str) = y from str_ext (by simp)] at this
 exact this
theorem groT_tokC (R : List (List Str)) (r : List Str) : ∀ (n : Nat) (c : Str), r[n]? = some c → (tokC r (n + 1)).foldl groT ⟨R, [], Str.ofString ""⟩ = ⟨R, r.take n, c⟩
 | 0, c, h => by
   rw [tokC_succ h]
   show (([] : List (Str × Str)) ++ ((if 0 = 0 then [] else [partT]) ++ puts c)).foldl groT _ = _
   rw [if_pos rfl, List.nil_append, List.nil_append, groT_puts, em_app]
   rfl
 | n + 1, c, h => by
   obtain ⟨d, hd⟩ : ∃ d, r[n]? = some d := ⟨_, List.getElem?_eq_getElem (by have := (List.getElem?_eq_some_iff.mp h).1; omega)⟩
   rw [tokC_succ h, List.foldl_append, groT_tokC R r n d hd, if_neg (by omega), List.foldl_append]
   have e : [partT].foldl groT ⟨R, r.take n, d⟩ = ⟨R, r.take n ++ [d], Str.ofString ""⟩ := by
     show groT _ partT = _
     unfold groT
     rw [show partT.1 = Str.ofString "part" from rfl, if_neg (ns (by decide +kernel)), if_pos (isS_self _)]
   rw [e, groT_puts, em_app, ← take_snocG hd]
theorem groT_tab : ∀ (t R : List (List Str)), (∀ r ∈ t, 1 ≤ r.length) → (tokTab t).foldl groT ⟨R, [], Str.ofString ""⟩ = ⟨R ++ t, [], Str.ofString ""⟩
 | [], R, _ => by show (⟨R, [], _⟩ : Gro) = _; rw [List.append_nil]
 | r :: t, R, h => by
   have e : tokTab (r :: t) = tokRow r ++ tokTab t := rfl
   have h1 := h r (List.mem_cons_self ..)
   obtain ⟨n, hn⟩ : ∃ n, r.length = n + 1 := ⟨r.length - 1, by omega⟩
   obtain ⟨c, hc⟩ : ∃ c, r[n]? = some c := ⟨_, List.getElem?_eq_getElem (by omega)⟩
   have e2 : (tokRow r).foldl groT ⟨R, [], Str.ofString ""⟩ = ⟨R ++ [r], [], Str.ofString ""⟩ := by
     unfold tokRow
     rw [hn, List.foldl_append, groT_tokC R r n c hc]
     show groT _ endT = _
     unfold groT
     rw [show endT.1 = Str.ofString "end" from rfl, if_neg (ns (by decide +kernel)), if_neg (ns (by decide +kernel)), if_pos (isS_self _)]
     dsimp only
     rw [← take_snocG hc, List.take_of_length_le (by omega)]
   rw [e, List.foldl_append, e2, groT_tab t (R ++ [r]) fun r' h' => h r' (List.mem_cons_of_mem _ h'), List.append_assoc]
   rfl
theorem tab_of {p q f : Str} {b1 b2 b3 b4 : Bool} {F : Str} {t : List (List Str)} (ht : ∀ r ∈ t, 1 ≤ r.length) (h : RdT p q f b1 b2 b3 b4 (tokTab t) F.cps.toList) : tabM F (runM p q f b1 b2 b3 b4 (Str.ofString "row") (Str.ofString "") F.cps.toList).1 = t := by
 rw [tab_same h, show gro0 = ⟨[], [], Str.ofString ""⟩ from rfl, groT_tab t [] ht]
 rfl
theorem PR.un {p q f : Str} {b1 b2 b3 b4 : Bool} {w u wE uE : Str} {c : Nat} {cs : List Nat} {ts : List (Str × Str)} (h : PR p q f b1 b2 b3 b4 w u ts (c :: cs) wE uE) : ∃ k w' u' ts', stepM p q f b1 b2 b3 b4 w u c = .go k w' u' ∧ ts = (if isS k (Str.ofString "skip") = true then [] else [(k, if isS k (Str.ofString "put") = true then sg c else Str.ofString "")]) ++ ts' ∧ PR p q f b1 b2 b3 b4 w' u' ts' cs wE uE := by
 obtain ⟨h1, h2⟩ := h
 cases hs : stepM p q f b1 b2 b3 b4 w u c with
 | flt e => rw [run_flt0 hs] at h1; injection h1 with _ z; injection z with _ z; cases z
 | go k w' u' => rw [run_go0 hs] at h1 h2; exact ⟨k, w', u', _, rfl, h2.symm, h1, rfl⟩

theorem each_sum : ∀ (fs : List Str), (fs.map (·.length)).sum = (catS fs).length
 | [] => em_len.symm
 | F :: fs => by rw [List.map_cons, List.sum_cons, each_sum fs]; show _ = (F ++ catS fs).length; rw [app_len]
theorem join_em : ∀ (fs : List Str), Txt.join (Str.ofString "") fs = catS fs := by
 intro fs
 show Builtin.Str.glued (Str.ofString "") fs = _
 rw [StrLaws.glued_eq_join]
 induction fs with
 | nil => rfl
 | cons F fs ih =>
   cases fs with
   | nil => show F = F ++ Str.ofString ""; rw [app_em]
   | cons G fs =>
     show F ++ Str.ofString "" ++ Str.join (Str.ofString "") (G :: fs) = F ++ catS (G :: fs)
     rw [ih, app_em]


def rdIs (x : Cho) (t : List (List Str)) (z : Str) : Bool := decide (rdV (runC x z) z = some t)
def soleZ (x : Cho) (cs : List Cho) (t : List (List Str)) (z : Str) : Bool := rdIs x t z && !(cs.any fun y => rdIs y t z)
def soleV (x : Cho) (cs : List Cho) (t : List (List Str)) : V → Bool
 | .str z => isT (.str z) && soleZ x cs t z
 | _ => false
theorem sole_no {x : Cho} {cs : List Cho} {t : List (List Str)} {v : V} (h : isT v = false) : soleV x cs t v = false := by
 cases v with
 | str z => show (isT (.str z) && _) = false; rw [h]; rfl
 | _ => rfl
theorem rd_eq {K : PySem.W.Frag} {A B H : Hp} {v w : V} {o o' : Option (List (List Str))} {Q : VK} (h1 : RdV A H v o) (h2 : RdV B H w o') (q : Q (.bl (decide (o = o'))) H) : rEq v w H Q ∨ (rEqC K v w H Q ∨ rEqM K v w H Q) := by
 cases o with
 | none =>
   cases h1
   cases o' with
   | none => cases h2; rw [decide_eq_true rfl] at q; exact .inl ⟨rfl, by rw [decide_eq_true rfl]; exact q⟩
   | some T =>
     obtain ⟨l, es, rfl, _, e3, _⟩ := h2
     rw [decide_eq_false (by intro z; cases z)] at q
     exact .inr (.inr ⟨.inl ⟨rfl, l, _, rfl, SqL.of e3⟩, q⟩)
 | some T =>
   obtain ⟨l, es, rfl, _, e3, e4⟩ := h1
   cases o' with
   | none =>
     cases h2
     rw [decide_eq_false (by intro z; cases z)] at q
     exact .inr (.inr ⟨.inr ⟨rfl, l, _, rfl, SqL.of e3⟩, q⟩)
   | some T' =>
     obtain ⟨l', es', rfl, _, e3', e4'⟩ := h2
     have e : decide (some T = some T') = decide (T = T') := by
       by_cases h : T = T'
       · rw [h, decide_eq_true rfl, decide_eq_true rfl]
       · rw [decide_eq_false h, decide_eq_false fun z => h (Option.some.inj z)]
     rw [e] at q
     exact .inr (.inl ⟨_, cmp_tab e3 e3' e4 e4', q⟩)
theorem row_rws {H : Hp} {es : List V} {R : List (List Str)} (h : Paired (RelRow H) es R) : Rws (fun _ => none) H es R := paired_imp (fun _ _ ⟨a, e1, e3⟩ => ⟨a, e1, rfl, e3⟩) h
theorem tab_rdv {H : Hp} {a : Addr} {es : List V} {R : List (List Str)} (ha : H a = some (.lst es)) (h : Paired (RelRow H) es R) : RdV (fun _ => none) H (.ref a) (some R) := ⟨a, es, rfl, rfl, ha, row_rws h⟩
def mks (p q f : Str) (b1 b2 b3 b4 : Bool) (ts : List (Str × Str)) (m : Mrk) : List Nat → Option Mrk
 | [] => some m
 | c :: cs => (mrkM p q f b1 b2 b3 b4 ts m c).bind fun m' => mks p q f b1 b2 b3 b4 ts m' cs
section
variable {p q f : Str} {b1 b2 b3 b4 : Bool} {ts : List (Str × Str)}
theorem mks_snoc {c : Nat} : ∀ {cs : List Nat} {m : Mrk}, mks p q f b1 b2 b3 b4 ts m (cs ++ [c]) = (mks p q f b1 b2 b3 b4 ts m cs).bind fun m' => mrkM p q f b1 b2 b3 b4 ts m' c
 | [], m => by show (mrkM p q f b1 b2 b3 b4 ts m c).bind (fun m' => some m') = mrkM p q f b1 b2 b3 b4 ts m c; cases mrkM p q f b1 b2 b3 b4 ts m c <;> rfl
 | d :: cs, m => by
   show (mrkM p q f b1 b2 b3 b4 ts m d).bind _ = ((mrkM p q f b1 b2 b3 b4 ts m d).bind _).bind _
   cases h : mrkM p q f b1 b2 b3 b4 ts m d with
   | none => rfl
   | some m' => exact mks_snoc
theorem mks_none {c : Nat} {cs : List Nat} {m : Mrk} (h : mks p q f b1 b2 b3 b4 ts m cs = none) (ds : List Nat) : mks p q f b1 b2 b3 b4 ts m (cs ++ ds) = none := by
 induction cs generalizing m with
 | nil => cases h
 | cons d cs ih =>
   show (mrkM p q f b1 b2 b3 b4 ts m d).bind _ = none
   have h : (mrkM p q f b1 b2 b3 b4 ts m d).bind _ = none := h
   cases hm : mrkM p q f b1 b2 b3 b4 ts m d with
   | none => rfl
   | some m' => rw [hm] at h; exact ih h
theorem mrk_un {m m' : Mrk} {c : Nat} (h : mrkM p q f b1 b2 b3 b4 ts m c = some m') : ∃ k, stepM p q f b1 b2 b3 b4 m.1.1 m.1.2 c = .go k m'.1.1 m'.1.2 ∧ liveM f m'.1.1 m'.1.2 = true ∧ cntM ts m.2 k (sg c) = some m'.2 := by
 unfold mrkM liveStep at h
 cases hs : stepM p q f b1 b2 b3 b4 m.1.1 m.1.2 c with
 | flt e => rw [hs] at h; cases h
 | go k w u =>
   rw [hs] at h
   dsimp only at h
   by_cases hl : liveM f w u = true
   · rw [if_pos hl] at h
     dsimp only at h
     cases hc : cntM ts m.2 k (sg c) with
     | none => rw [hc] at h; cases h
     | some n => rw [hc] at h; cases h; exact ⟨k, rfl, hl, hc⟩
   · rw [if_neg hl] at h; cases h
theorem mrk_of {m : Mrk} {c n : Nat} {k w u : Str} (hs : stepM p q f b1 b2 b3 b4 m.1.1 m.1.2 c = .go k w u) (hl : liveM f w u = true) (hc : cntM ts m.2 k (sg c) = some n) : mrkM p q f b1 b2 b3 b4 ts m c = some ((w, u), n) := by
 unfold mrkM liveStep
 rw [hs]
 dsimp only
 rw [if_pos hl]
 dsimp only
 rw [hc]
theorem mks_pr : ∀ {cs : List Nat} {m m' : Mrk}, m.2 ≤ ts.length → mks p q f b1 b2 b3 b4 ts m cs = some m' → m.2 ≤ m'.2 ∧ m'.2 ≤ ts.length ∧ PR p q f b1 b2 b3 b4 m.1.1 m.1.2 ((ts.take m'.2).drop m.2) cs m'.1.1 m'.1.2
 | [], m, m', hm, h => by
   cases h
   refine ⟨Nat.le_refl _, hm, rfl, ?_⟩
   show [] = _
   rw [List.drop_eq_nil_of_le (by rw [List.length_take]; omega)]
 | c :: cs, m, m', hm, h => by
   have h : (mrkM p q f b1 b2 b3 b4 ts m c).bind _ = some m' := h
   cases hM : mrkM p q f b1 b2 b3 b4 ts m c with
   | none => rw [hM] at h; cases h
   | some m1 =>
     rw [hM] at h
     obtain ⟨k, hs, hl, hc⟩ := mrk_un hM
     unfold cntM at hc
     by_cases hk : isS k (Str.ofString "skip") = true
     · rw [if_pos hk] at hc
       have e : m.2 = m1.2 := Option.some.inj hc
       obtain ⟨i1, i2, i3, i4⟩ := mks_pr (by omega) h
       refine ⟨by omega, i2, by rw [run_go0 hs]; exact i3, ?_⟩
       rw [run_go0 hs]
       unfold tkM
       rw [if_pos hk, List.nil_append, i4, e]
     · rw [if_neg hk] at hc
       by_cases ht : ts[m.2]? = some (k, if isS k (Str.ofString "put") = true then sg c else Str.ofString "")
       · rw [if_pos ht] at hc
         have e : m.2 + 1 = m1.2 := Option.some.inj hc
         have hlt := (List.getElem?_eq_some_iff.mp ht).1
         obtain ⟨i1, i2, i3, i4⟩ := mks_pr (by omega) h
         refine ⟨by omega, i2, by rw [run_go0 hs]; exact i3, ?_⟩
         rw [run_go0 hs]
         unfold tkM
         rw [if_neg hk, i4, ← e]
         have hx : (ts.take m'.2)[m.2]? = some (k, if isS k (Str.ofString "put") = true then sg c else Str.ofString "") := by rw [List.getElem?_take, if_pos (by omega)]; exact ht
         obtain ⟨h1, h2⟩ := List.getElem?_eq_some_iff.mp hx
         rw [List.drop_eq_getElem_cons h1, h2]
         rfl
       · rw [if_neg ht] at hc; cases hc
theorem pr_mks : ∀ {cs : List Nat} {m : Mrk} {w u : Str} {n : Nat}, StOk q m.1.1 m.1.2 → liveM f w u = true → m.2 ≤ n → n ≤ ts.length → PR p q f b1 b2 b3 b4 m.1.1 m.1.2 ((ts.take n).drop m.2) cs w u → mks p q f b1 b2 b3 b4 ts m cs = some ((w, u), n)
 | [], m, w, u, n, _, _, hmn, hn, h => by
   obtain ⟨h1, h2⟩ := h
   have e : (m.1.1, m.1.2, (none : Option Str)) = (w, u, none) := h1
   injection e with e1 e2
   injection e2 with e2 _
   have hl : ((ts.take n).drop m.2).length = 0 := by rw [← h2]; rfl
   rw [List.length_drop, List.length_take] at hl
   show some m = _
   rw [← e1, ← e2, show n = m.2 by omega]
 | c :: cs, m, w, u, n, hq, hlv, hmn, hn, h => by
   obtain ⟨k, w', u', ts', hs, e, h'⟩ := h.un
   have hl : liveM f w' u' = true := by
     cases z : liveM f w' u' with
     | true => rfl
     | false => rw [dead_end (step_ok hq hs) z h'.1] at hlv; cases hlv
   show (mrkM p q f b1 b2 b3 b4 ts m c).bind _ = _
   by_cases hk : isS k (Str.ofString "skip") = true
   · rw [if_pos hk, List.nil_append] at e
     have hc : cntM ts m.2 k (sg c) = some m.2 := by unfold cntM; rw [if_pos hk]
     rw [mrk_of hs hl hc]
     refine pr_mks (m := ((w', u'), m.2)) (step_ok hq hs) hlv hmn hn ?_
     show PR _ _ _ _ _ _ _ w' u' ((ts.take n).drop m.2) cs w u
     rw [e]; exact h'
   · rw [if_neg hk] at e
     have hx : (ts.take n)[m.2]? = some (k, if isS k (Str.ofString "put") = true then sg c else Str.ofString "") := by
       have := congrArg List.head? e
       rw [List.head?_drop] at this
       exact this
     have hin : m.2 < n := by
       have := (List.getElem?_eq_some_iff.mp hx).1
       rw [List.length_take] at this
       omega
     rw [List.getElem?_take, if_pos hin] at hx
     have hd : (ts.take n).drop (m.2 + 1) = ts' := by
       have := congrArg List.tail e
       rw [List.tail_drop] at this
       exact this
     have hc : cntM ts m.2 k (sg c) = some (m.2 + 1) := by unfold cntM; rw [if_neg hk, if_pos hx]
     rw [mrk_of hs hl hc]
     refine pr_mks (m := ((w', u'), m.2 + 1)) (step_ok hq hs) hlv hin hn ?_
     show PR _ _ _ _ _ _ _ w' u' ((ts.take n).drop (m.2 + 1)) cs w u
     rw [hd]; exact h'
theorem mks_rd {cs : List Nat} : mks p q f b1 b2 b3 b4 ts m0 cs = some ((Str.ofString "row", Str.ofString ""), ts.length) ↔ RdT p q f b1 b2 b3 b4 ts cs := by
 constructor
 · intro h
   obtain ⟨_, _, h3⟩ := mks_pr (Nat.zero_le _) h
   rw [List.take_length] at h3
   exact h3
 · intro h
   refine pr_mks (.inl ⟨rfl, .inl rfl⟩) (row_live f) (Nat.zero_le _) (Nat.le_refl _) ?_
   rw [List.take_length]
   exact h
end
theorem rd_is {x : Cho} {t : List (List Str)} {z : Str} (ht : ∀ r ∈ t, 1 ≤ r.length) : rdIs x t z = decide (mks x.1 x.2.1 x.2.2.1 x.2.2.2.a x.2.2.2.b x.2.2.2.c x.2.2.2.d (tokTab t) m0 z.cps.toList = some ((Str.ofString "row", Str.ofString ""), (tokTab t).length)) := by
 unfold rdIs
 rw [Bool.eq_iff_iff, decide_eq_true_iff, decide_eq_true_iff, mks_rd]
 unfold rdV runC
 constructor
 · intro h
   split at h
   · rename_i hW
     obtain ⟨e1, e2, e3⟩ := law_ok hW
     have hrun : (runM x.1 x.2.1 x.2.2.1 x.2.2.2.a x.2.2.2.b x.2.2.2.c x.2.2.2.d (Str.ofString "row") (Str.ofString "") z.cps.toList).2 = (Str.ofString "row", Str.ofString "", none) := Prod.ext e2 (Prod.ext e3 e1)
     have := tok_read hrun
     rw [Option.some.inj h] at this
     exact this
   · cases h
 · intro h
   rw [if_pos (law_row h.1), tab_of ht h]

theorem em_sg : Sg (Str.ofString "") := ⟨by rw [em_list]; exact List.nodup_nil, fun c hc => by rw [em_list] at hc; cases hc⟩

theorem catS_ok : ∀ {r : List Str}, (∀ c ∈ r, cellOk c) → cellOk (catS r)
 | [], _ => fun d hd => by rw [show (catS []).cps.toList = [] from em_list] at hd; cases hd
 | z :: r, h => fun d hd => by
   have hd : d ∈ (z ++ catS r).cps.toList := hd
   rw [app_list] at hd
   rcases List.mem_append.mp hd with q | q
   · exact h z (List.mem_cons_self ..) d q
   · exact catS_ok (fun c hc => h c (List.mem_cons_of_mem _ hc)) d q
theorem catS_le : ∀ {r : List Str} {m : Nat}, (∀ c ∈ r, c.length ≤ m) → (catS r).length ≤ r.length * m
 | [], m, _ => by rw [show (catS []).length = 0 from em_len]; exact Nat.zero_le _
 | z :: r, m, h => by
   show (z ++ catS r).length ≤ (r.length + 1) * m
   have h1 := h z (List.mem_cons_self ..)
   have h2 := catS_le (r := r) (m := m) fun c hc => h c (List.mem_cons_of_mem _ hc)
   rw [app_len, Nat.succ_mul]
   omega
theorem catS_sum (r : List Str) : (catS r).length = (lens r).sum := (each_sum r).symm
theorem cat_total : ∀ (t : List (List Str)), (catS (t.map catS)).length = total t
 | [] => em_len
 | r :: t => by
   show (catS r ++ catS (t.map catS)).length = _
   rw [app_len, cat_total t, catS_sum]
   unfold total
   rw [List.map_cons, List.sum_cons]


theorem ix14 : ∀ n : Nat, n < 14 → (Builtin.Str.strSliceIndices none (some (-1)) 1 n).length ≤ n := by decide +kernel
def TabAt (H : Hp) (e : V) (T : List (List Str)) : Prop := ∃ l es, e = .ref l ∧ H l = some (.lst es) ∧ Paired (RelRow H) es T
theorem TabAt.mono {H H' : Hp} {e : V} {T : List (List Str)} (s : Same H H') (h : TabAt H e T) : TabAt H' e T := by
 obtain ⟨l, es, e1, e2, e3⟩ := h
 exact ⟨l, es, e1, s _ _ e2, paired_imp (fun a b h => RelRow.mono s h) e3⟩
theorem tab1 {T : List (List Str)} (h : TabOk T) (h1 : total T ≤ 30) (h2 : T.length ≤ 30) : TabOk (T ++ [[Str.ofString "a"]]) := by
 have al : (Str.ofString "a").length = 1 := by decide +kernel
 refine ⟨by rw [List.length_append]; show _ + 1 ≤ 60; omega, fun r hr => ?_, ?_⟩
 · rcases List.mem_append.mp hr with q | q
   · exact h.rows r q
   · rw [List.mem_singleton.mp q]
     refine ⟨by show 1 ≤ 1; omega, by show 1 ≤ 20; omega, fun c hc => ?_⟩
     rw [List.mem_singleton.mp hc]
     show ∀ d ∈ _, _
     decide +kernel
 · rw [total_snoc]; show _ + ((Str.ofString "a").length + 0) ≤ 400; omega
theorem tab2 {c : Str} {r : List Str} {T : List (List Str)} (h : TabOk ((c :: r) :: T)) (h1 : total ((c :: r) :: T) ≤ 30) : TabOk (((c ++ Str.ofString "a") :: r) :: T) := by
 have al : (Str.ofString "a").length = 1 := by decide +kernel
 have h0 := h.rows (c :: r) (List.mem_cons_self ..)
 refine ⟨h.n, fun r' hr => ?_, ?_⟩
 · rcases List.mem_cons.mp hr with q | q
   · rw [q]
     refine ⟨h0.lo, h0.hi, fun d hd => ?_⟩
     rcases List.mem_cons.mp hd with z | z
     · rw [z]
       exact cell_app (h0.ok c (List.mem_cons_self ..)) (by show ∀ d ∈ _, _; decide +kernel)
     · exact h0.ok d (List.mem_cons_of_mem _ z)
   · exact h.rows r' (List.mem_cons_of_mem _ q)
 · have e : ∀ (d : Str) (r : List Str) (T : List (List Str)), total ((d :: r) :: T) = d.length + (lens r).sum + total T := fun d r T => by unfold total lens; rw [List.map_cons, List.sum_cons, List.map_cons, List.sum_cons]
   rw [e] at h1 ⊢
   rw [app_len]
   omega
theorem isT_yes {z : Str} (h : cellOk z) (hl : z.length ≤ 2000) : isT (.str z) = true := by rw [isT_len h, decide_eq_true (show (z.length : Int) ≤ 2000 by omega)]

theorem sc_is_printable : FnScope ["sign", "number"] ["sign"] (defScope s_is_printable) := ⟨rfl, rfl, rfl, by decide +kernel, rfl, by decide +kernel, by decide +kernel⟩
theorem sc_has_signs_alone : FnScope ["text"] ["text"] (defScope s_has_signs_alone) := ⟨rfl, rfl, rfl, by decide +kernel, rfl, by decide +kernel, by decide +kernel⟩
theorem sc_is_text : FnScope ["thing"] ["thing"] (defScope s_is_text) := ⟨rfl, rfl, rfl, by decide +kernel, rfl, by decide +kernel, by decide +kernel⟩
theorem sc_are_unlike_signs : FnScope ["thing", "least", "most"] ["thing", "least", "most"] (defScope s_are_unlike_signs) := ⟨rfl, rfl, rfl, by decide +kernel, rfl, by decide +kernel, by decide +kernel⟩
theorem sc_Dialect___init__ : FnScope ["self", "parts", "quotes", "frees", "twin", "wide", "thin", "stray", "truth"] ["self", "parts", "quotes", "frees", "twin", "wide", "thin", "stray"] (defScope s_Dialect___init__) := ⟨rfl, rfl, rfl, by decide +kernel, rfl, by decide +kernel, by decide +kernel⟩
theorem sc_Dialect_told : FnScope ["self"] ["self"] (defScope s_Dialect_told) := ⟨rfl, rfl, rfl, by decide +kernel, rfl, by decide +kernel, by decide +kernel⟩
theorem sc_dialect_of : FnScope ["told"] ["told"] (defScope s_dialect_of) := ⟨rfl, rfl, rfl, by decide +kernel, rfl, by decide +kernel, by decide +kernel⟩
theorem sc_step_at_beginning : FnScope ["dialect", "state", "sign"] ["dialect", "state", "sign"] (defScope s_step_at_beginning) := ⟨rfl, rfl, rfl, by decide +kernel, rfl, by decide +kernel, by decide +kernel⟩
theorem sc_step_in_plain : FnScope ["dialect", "sign"] ["dialect", "sign"] (defScope s_step_in_plain) := ⟨rfl, rfl, rfl, by decide +kernel, rfl, by decide +kernel, by decide +kernel⟩
theorem sc_step_within : FnScope ["dialect", "quote", "sign"] ["dialect", "quote", "sign"] (defScope s_step_within) := ⟨rfl, rfl, rfl, by decide +kernel, rfl, by decide +kernel, by decide +kernel⟩
theorem sc_step_behind : FnScope ["dialect", "sign"] ["dialect", "sign"] (defScope s_step_behind) := ⟨rfl, rfl, rfl, by decide +kernel, rfl, by decide +kernel, by decide +kernel⟩
theorem sc_step_in_doubt : FnScope ["dialect", "quote", "sign"] ["dialect", "quote", "sign"] (defScope s_step_in_doubt) := ⟨rfl, rfl, rfl, by decide +kernel, rfl, by decide +kernel, by decide +kernel⟩
theorem sc_step_freed : FnScope ["dialect", "quote", "sign"] ["dialect", "quote", "sign"] (defScope s_step_freed) := ⟨rfl, rfl, rfl, by decide +kernel, rfl, by decide +kernel, by decide +kernel⟩
theorem sc_Turn___init__ : FnScope ["self", "dialect"] ["self", "dialect"] (defScope s_Turn___init__) := ⟨rfl, rfl, rfl, by decide +kernel, rfl, by decide +kernel, by decide +kernel⟩
theorem sc_Turn_step : FnScope ["self", "state", "sign", "word", "quote"] ["self", "state", "sign"] (defScope s_Turn_step) := ⟨rfl, rfl, rfl, by decide +kernel, rfl, by decide +kernel, by decide +kernel⟩
theorem sc_check_text : FnScope ["thing"] ["thing"] (defScope s_check_text) := ⟨rfl, rfl, rfl, by decide +kernel, rfl, by decide +kernel, by decide +kernel⟩
theorem sc_walk : FnScope ["dialect", "text", "turn", "kinds", "state", "sign", "step"] ["dialect", "text"] (defScope s_walk) := ⟨rfl, rfl, rfl, by decide +kernel, rfl, by decide +kernel, by decide +kernel⟩
theorem sc_end_of : FnScope ["walked", "kinds", "word"] ["walked"] (defScope s_end_of) := ⟨rfl, rfl, rfl, by decide +kernel, rfl, by decide +kernel, by decide +kernel⟩
theorem sc_table_of : FnScope ["text", "kinds", "table", "row", "cell", "sign", "kind"] ["text", "kinds"] (defScope s_table_of) := ⟨rfl, rfl, rfl, by decide +kernel, rfl, by decide +kernel, by decide +kernel⟩
theorem sc_reading_of : FnScope ["dialect", "text", "walked"] ["dialect", "text"] (defScope s_reading_of) := ⟨rfl, rfl, rfl, by decide +kernel, rfl, by decide +kernel, by decide +kernel⟩
theorem sc_is_sole : FnScope ["dialect", "table", "others", "text"] ["dialect", "table", "others", "text"] (defScope s_is_sole) := ⟨rfl, rfl, rfl, by decide +kernel, rfl, by decide +kernel, by decide +kernel⟩
theorem sc__law_cell_at : FnScope ["_law_script", "_law_k"] ["_law_script", "_law_k"] (defScope s__law_cell_at) := ⟨rfl, rfl, rfl, by decide +kernel, rfl, by decide +kernel, by decide +kernel⟩
theorem sc__law_mixed : FnScope ["_law_number_here", "_law_salt", "_law_one", "_law_two"] ["_law_number_here", "_law_salt"] (defScope s__law_mixed) := ⟨rfl, rfl, rfl, by decide +kernel, rfl, by decide +kernel, by decide +kernel⟩
theorem sc__law_number : FnScope ["_law_cell", "_law_salt", "_law_number_here", "_law_high"] ["_law_cell", "_law_salt"] (defScope s__law_number) := ⟨rfl, rfl, rfl, by decide +kernel, rfl, by decide +kernel, by decide +kernel⟩
theorem sc__law_some : FnScope ["_law_number_here", "_law_many", "_law_menu", "_law_found", "_law_k", "_law_sign"] ["_law_number_here", "_law_many", "_law_menu"] (defScope s__law_some) := ⟨rfl, rfl, rfl, by decide +kernel, rfl, by decide +kernel, by decide +kernel⟩
theorem sc__law_menus : FnScope ["_law_way", "_law_every"] ["_law_way"] (defScope s__law_menus) := ⟨rfl, rfl, rfl, by decide +kernel, rfl, by decide +kernel, by decide +kernel⟩
theorem sc__law_told : FnScope ["_law_cell", "_law_number_here", "_law_flags", "_law_sizes", "_law_menus_here", "_law_parts", "_law_quotes", "_law_frees", "_law_truths"] ["_law_cell"] (defScope s__law_told) := ⟨rfl, rfl, rfl, by decide +kernel, rfl, by decide +kernel, by decide +kernel⟩
theorem sc__law_made : FnScope ["_law_told_here"] ["_law_told_here"] (defScope s__law_made) := ⟨rfl, rfl, rfl, by decide +kernel, rfl, by decide +kernel, by decide +kernel⟩
theorem sc__law_open : FnScope ["_law_told_here", "_law_state", "_law_sign", "_law_parts", "_law_quotes", "_law_frees", "_law_twin", "_law_wide", "_law_thin", "_law_stray"] ["_law_told_here", "_law_state", "_law_sign"] (defScope s__law_open) := ⟨rfl, rfl, rfl, by decide +kernel, rfl, by decide +kernel, by decide +kernel⟩
theorem sc__law_step : FnScope ["_law_told_here", "_law_state", "_law_sign", "_law_parts", "_law_quotes", "_law_frees", "_law_twin", "_law_wide", "_law_thin", "_law_stray", "_law_word", "_law_quote"] ["_law_told_here", "_law_state", "_law_sign"] (defScope s__law_step) := ⟨rfl, rfl, rfl, by decide +kernel, rfl, by decide +kernel, by decide +kernel⟩
theorem sc__law_near : FnScope ["_law_told_here", "_law_number_here", "_law_some_here", "_law_way"] ["_law_told_here", "_law_number_here"] (defScope s__law_near) := ⟨rfl, rfl, rfl, by decide +kernel, rfl, by decide +kernel, by decide +kernel⟩
theorem sc__law_others : FnScope ["_law_script", "_law_told_here", "_law_first", "_law_many", "_law_found", "_law_k", "_law_number_here"] ["_law_script", "_law_told_here", "_law_first", "_law_many"] (defScope s__law_others) := ⟨rfl, rfl, rfl, by decide +kernel, rfl, by decide +kernel, by decide +kernel⟩
theorem sc__law_signs : FnScope ["_law_tolds", "_law_table", "_law_some_here", "_law_found", "_law_sign"] ["_law_tolds", "_law_table"] (defScope s__law_signs) := ⟨rfl, rfl, rfl, by decide +kernel, rfl, by decide +kernel, by decide +kernel⟩
theorem sc__law_tokens : FnScope ["_law_table", "_law_found", "_law_row", "_law_k", "_law_sign"] ["_law_table"] (defScope s__law_tokens) := ⟨rfl, rfl, rfl, by decide +kernel, rfl, by decide +kernel, by decide +kernel⟩
theorem sc__law_led : FnScope ["_law_told_here", "_law_tokens_here", "_law_mark", "_law_sign", "_law_kind", "_law_spot", "_law_token"] ["_law_told_here", "_law_tokens_here", "_law_mark", "_law_sign"] (defScope s__law_led) := ⟨rfl, rfl, rfl, by decide +kernel, rfl, by decide +kernel, by decide +kernel⟩
theorem sc__law_reads : FnScope ["_law_told_here", "_law_text_here", "_law_table", "_law_tokens_here", "_law_mark", "_law_sign"] ["_law_told_here", "_law_text_here", "_law_table"] (defScope s__law_reads) := ⟨rfl, rfl, rfl, by decide +kernel, rfl, by decide +kernel, by decide +kernel⟩
theorem sc__law_sole : FnScope ["_law_tolds", "_law_text_here", "_law_table", "_law_told_here"] ["_law_tolds", "_law_text_here", "_law_table"] (defScope s__law_sole) := ⟨rfl, rfl, rfl, by decide +kernel, rfl, by decide +kernel, by decide +kernel⟩
theorem sc__law_copy : FnScope ["_law_table"] ["_law_table"] (defScope s__law_copy) := ⟨rfl, rfl, rfl, by decide +kernel, rfl, by decide +kernel, by decide +kernel⟩
theorem sc__law_text : FnScope ["_law_cell", "_law_tolds", "_law_signs_here", "_law_number_here", "_law_size", "_law_end", "_law_text_here", "_law_k"] ["_law_cell", "_law_tolds"] (defScope s__law_text) := ⟨rfl, rfl, rfl, by decide +kernel, rfl, by decide +kernel, by decide +kernel⟩
theorem sc__law_table_of : FnScope ["_law_told_here", "_law_text_here", "_law_spot", "_law_table", "_law_row", "_law_one", "_law_sign", "_law_kind"] ["_law_told_here", "_law_text_here"] (defScope s__law_table_of) := ⟨rfl, rfl, rfl, by decide +kernel, rfl, by decide +kernel, by decide +kernel⟩
theorem sc_law : FnScope ["_law_script", "_law_told_here", "_law_tolds", "_law_text_here", "_law_table", "_law_other", "_law_made_here", "_law_rows", "_law_handed", "_law_thing", "_law_found"] ["_law_script"] (defScope s_law) := ⟨rfl, rfl, rfl, by decide +kernel, rfl, by decide +kernel, by decide +kernel⟩
structure Txt (K : PySem.W.Frag) (mg : Str → Option Value) (f_is_printable f_has_signs_alone f_is_text f_are_unlike_signs f_Dialect___init__ f_Dialect_told f_dialect_of f_step_at_beginning f_step_in_plain f_step_within f_step_behind f_step_in_doubt f_step_freed f_Turn___init__ f_Turn_step f_check_text f_walk f_end_of f_table_of f_reading_of f_is_sole f__law_cell_at f__law_mixed f__law_number f__law_some f__law_menus f__law_told f__law_made f__law_open f__law_step f__law_near f__law_others f__law_signs f__law_tokens f__law_led f__law_reads f__law_sole f__law_copy f__law_text f__law_table_of f_law C_Dialect C_Turn a_START : Addr) (fd_is_printable fd_has_signs_alone fd_is_text fd_are_unlike_signs fd_Dialect___init__ fd_Dialect_told fd_dialect_of fd_step_at_beginning fd_step_in_plain fd_step_within fd_step_behind fd_step_in_doubt fd_step_freed fd_Turn___init__ fd_Turn_step fd_check_text fd_walk fd_end_of fd_table_of fd_reading_of fd_is_sole fd__law_cell_at fd__law_mixed fd__law_number fd__law_some fd__law_menus fd__law_told fd__law_made fd__law_open fd__law_step fd__law_near fd__law_others fd__law_signs fd__law_tokens fd__law_led fd__law_reads fd__law_sole fd__law_copy fd__law_text fd__law_table_of fd_law : FuncData) (z_LINE : Str) (dt_Dialect___init__ : Addr) : Prop where
 F_is_printable : Fun K "is_printable" "is_printable" s_is_printable f_is_printable fd_is_printable
 b_is_printable : Binds K fd_is_printable ["sign"] []
 g_is_printable : mg "is_printable" = some (.ref f_is_printable)
 F_has_signs_alone : Fun K "has_signs_alone" "has_signs_alone" s_has_signs_alone f_has_signs_alone fd_has_signs_alone
 b_has_signs_alone : Binds K fd_has_signs_alone ["text"] []
 g_has_signs_alone : mg "has_signs_alone" = some (.ref f_has_signs_alone)
 F_is_text : Fun K "is_text" "is_text" s_is_text f_is_text fd_is_text
 b_is_text : Binds K fd_is_text ["thing"] []
 g_is_text : mg "is_text" = some (.ref f_is_text)
 F_are_unlike_signs : Fun K "are_unlike_signs" "are_unlike_signs" s_are_unlike_signs f_are_unlike_signs fd_are_unlike_signs
 b_are_unlike_signs : Binds K fd_are_unlike_signs ["thing", "least", "most"] []
 g_are_unlike_signs : mg "are_unlike_signs" = some (.ref f_are_unlike_signs)
 F_Dialect___init__ : FunD K "__init__" "Dialect.__init__" s_Dialect___init__ f_Dialect___init__ fd_Dialect___init__ (.ref dt_Dialect___init__)
 b_Dialect___init__ : Binds K fd_Dialect___init__ ["self", "parts", "quotes", "frees", "twin", "wide", "thin", "stray"] []
 F_Dialect_told : Fun K "told" "Dialect.told" s_Dialect_told f_Dialect_told fd_Dialect_told
 b_Dialect_told : Binds K fd_Dialect_told ["self"] []
 m_Dialect_told : Meth K C_Dialect "told" f_Dialect_told
 F_dialect_of : Fun K "dialect_of" "dialect_of" s_dialect_of f_dialect_of fd_dialect_of
 b_dialect_of : Binds K fd_dialect_of ["told"] []
 g_dialect_of : mg "dialect_of" = some (.ref f_dialect_of)
 F_step_at_beginning : Fun K "step_at_beginning" "step_at_beginning" s_step_at_beginning f_step_at_beginning fd_step_at_beginning
 b_step_at_beginning : Binds K fd_step_at_beginning ["dialect", "state", "sign"] []
 g_step_at_beginning : mg "step_at_beginning" = some (.ref f_step_at_beginning)
 F_step_in_plain : Fun K "step_in_plain" "step_in_plain" s_step_in_plain f_step_in_plain fd_step_in_plain
 b_step_in_plain : Binds K fd_step_in_plain ["dialect", "sign"] []
 g_step_in_plain : mg "step_in_plain" = some (.ref f_step_in_plain)
 F_step_within : Fun K "step_within" "step_within" s_step_within f_step_within fd_step_within
 b_step_within : Binds K fd_step_within ["dialect", "quote", "sign"] []
 g_step_within : mg "step_within" = some (.ref f_step_within)
 F_step_behind : Fun K "step_behind" "step_behind" s_step_behind f_step_behind fd_step_behind
 b_step_behind : Binds K fd_step_behind ["dialect", "sign"] []
 g_step_behind : mg "step_behind" = some (.ref f_step_behind)
 F_step_in_doubt : Fun K "step_in_doubt" "step_in_doubt" s_step_in_doubt f_step_in_doubt fd_step_in_doubt
 b_step_in_doubt : Binds K fd_step_in_doubt ["dialect", "quote", "sign"] []
 g_step_in_doubt : mg "step_in_doubt" = some (.ref f_step_in_doubt)
 F_step_freed : Fun K "step_freed" "step_freed" s_step_freed f_step_freed fd_step_freed
 b_step_freed : Binds K fd_step_freed ["dialect", "quote", "sign"] []
 g_step_freed : mg "step_freed" = some (.ref f_step_freed)
 F_Turn___init__ : Fun K "__init__" "Turn.__init__" s_Turn___init__ f_Turn___init__ fd_Turn___init__
 b_Turn___init__ : Binds K fd_Turn___init__ ["self", "dialect"] []
 F_Turn_step : Fun K "step" "Turn.step" s_Turn_step f_Turn_step fd_Turn_step
 b_Turn_step : Binds K fd_Turn_step ["self", "state", "sign"] []
 m_Turn_step : Meth K C_Turn "step" f_Turn_step
 F_check_text : Fun K "check_text" "check_text" s_check_text f_check_text fd_check_text
 b_check_text : Binds K fd_check_text ["thing"] []
 g_check_text : mg "check_text" = some (.ref f_check_text)
 F_walk : Fun K "walk" "walk" s_walk f_walk fd_walk
 b_walk : Binds K fd_walk ["dialect", "text"] []
 g_walk : mg "walk" = some (.ref f_walk)
 F_end_of : Fun K "end_of" "end_of" s_end_of f_end_of fd_end_of
 b_end_of : Binds K fd_end_of ["walked"] []
 g_end_of : mg "end_of" = some (.ref f_end_of)
 F_table_of : Fun K "table_of" "table_of" s_table_of f_table_of fd_table_of
 b_table_of : Binds K fd_table_of ["text", "kinds"] []
 g_table_of : mg "table_of" = some (.ref f_table_of)
 F_reading_of : Fun K "reading_of" "reading_of" s_reading_of f_reading_of fd_reading_of
 b_reading_of : Binds K fd_reading_of ["dialect", "text"] []
 g_reading_of : mg "reading_of" = some (.ref f_reading_of)
 F_is_sole : Fun K "is_sole" "is_sole" s_is_sole f_is_sole fd_is_sole
 b_is_sole : Binds K fd_is_sole ["dialect", "table", "others", "text"] []
 g_is_sole : mg "is_sole" = some (.ref f_is_sole)
 F__law_cell_at : Fun K "_law_cell_at" "_law_cell_at" s__law_cell_at f__law_cell_at fd__law_cell_at
 b__law_cell_at : Binds K fd__law_cell_at ["_law_script", "_law_k"] []
 g__law_cell_at : mg "_law_cell_at" = some (.ref f__law_cell_at)
 F__law_mixed : Fun K "_law_mixed" "_law_mixed" s__law_mixed f__law_mixed fd__law_mixed
 b__law_mixed : Binds K fd__law_mixed ["_law_number_here", "_law_salt"] []
 g__law_mixed : mg "_law_mixed" = some (.ref f__law_mixed)
 F__law_number : Fun K "_law_number" "_law_number" s__law_number f__law_number fd__law_number
 b__law_number : Binds K fd__law_number ["_law_cell", "_law_salt"] []
 g__law_number : mg "_law_number" = some (.ref f__law_number)
 F__law_some : Fun K "_law_some" "_law_some" s__law_some f__law_some fd__law_some
 b__law_some : Binds K fd__law_some ["_law_number_here", "_law_many", "_law_menu"] []
 g__law_some : mg "_law_some" = some (.ref f__law_some)
 F__law_menus : Fun K "_law_menus" "_law_menus" s__law_menus f__law_menus fd__law_menus
 b__law_menus : Binds K fd__law_menus ["_law_way"] []
 g__law_menus : mg "_law_menus" = some (.ref f__law_menus)
 F__law_told : Fun K "_law_told" "_law_told" s__law_told f__law_told fd__law_told
 b__law_told : Binds K fd__law_told ["_law_cell"] []
 g__law_told : mg "_law_told" = some (.ref f__law_told)
 F__law_made : Fun K "_law_made" "_law_made" s__law_made f__law_made fd__law_made
 b__law_made : Binds K fd__law_made ["_law_told_here"] []
 g__law_made : mg "_law_made" = some (.ref f__law_made)
 F__law_open : Fun K "_law_open" "_law_open" s__law_open f__law_open fd__law_open
 b__law_open : Binds K fd__law_open ["_law_told_here", "_law_state", "_law_sign"] []
 g__law_open : mg "_law_open" = some (.ref f__law_open)
 F__law_step : Fun K "_law_step" "_law_step" s__law_step f__law_step fd__law_step
 b__law_step : Binds K fd__law_step ["_law_told_here", "_law_state", "_law_sign"] []
 g__law_step : mg "_law_step" = some (.ref f__law_step)
 F__law_near : Fun K "_law_near" "_law_near" s__law_near f__law_near fd__law_near
 b__law_near : Binds K fd__law_near ["_law_told_here", "_law_number_here"] []
 g__law_near : mg "_law_near" = some (.ref f__law_near)
 F__law_others : Fun K "_law_others" "_law_others" s__law_others f__law_others fd__law_others
 b__law_others : Binds K fd__law_others ["_law_script", "_law_told_here", "_law_first", "_law_many"] []
 g__law_others : mg "_law_others" = some (.ref f__law_others)
 F__law_signs : Fun K "_law_signs" "_law_signs" s__law_signs f__law_signs fd__law_signs
 b__law_signs : Binds K fd__law_signs ["_law_tolds", "_law_table"] []
 g__law_signs : mg "_law_signs" = some (.ref f__law_signs)
 F__law_tokens : Fun K "_law_tokens" "_law_tokens" s__law_tokens f__law_tokens fd__law_tokens
 b__law_tokens : Binds K fd__law_tokens ["_law_table"] []
 g__law_tokens : mg "_law_tokens" = some (.ref f__law_tokens)
 F__law_led : Fun K "_law_led" "_law_led" s__law_led f__law_led fd__law_led
 b__law_led : Binds K fd__law_led ["_law_told_here", "_law_tokens_here", "_law_mark", "_law_sign"] []
 g__law_led : mg "_law_led" = some (.ref f__law_led)
 F__law_reads : Fun K "_law_reads" "_law_reads" s__law_reads f__law_reads fd__law_reads
 b__law_reads : Binds K fd__law_reads ["_law_told_here", "_law_text_here", "_law_table"] []
 g__law_reads : mg "_law_reads" = some (.ref f__law_reads)
 F__law_sole : Fun K "_law_sole" "_law_sole" s__law_sole f__law_sole fd__law_sole
 b__law_sole : Binds K fd__law_sole ["_law_tolds", "_law_text_here", "_law_table"] []
 g__law_sole : mg "_law_sole" = some (.ref f__law_sole)
 F__law_copy : Fun K "_law_copy" "_law_copy" s__law_copy f__law_copy fd__law_copy
 b__law_copy : Binds K fd__law_copy ["_law_table"] []
 g__law_copy : mg "_law_copy" = some (.ref f__law_copy)
 F__law_text : Fun K "_law_text" "_law_text" s__law_text f__law_text fd__law_text
 b__law_text : Binds K fd__law_text ["_law_cell", "_law_tolds"] []
 g__law_text : mg "_law_text" = some (.ref f__law_text)
 F__law_table_of : Fun K "_law_table_of" "_law_table_of" s__law_table_of f__law_table_of fd__law_table_of
 b__law_table_of : Binds K fd__law_table_of ["_law_told_here", "_law_text_here"] []
 g__law_table_of : mg "_law_table_of" = some (.ref f__law_table_of)
 F_law : Fun K "law" "law" s_law f_law fd_law
 b_law : Binds K fd_law ["_law_script"] []
 g_law : mg "law" = some (.ref f_law)
 cl_Dialect : Cls K C_Dialect
 g_Dialect : mg "Dialect" = some (.ref C_Dialect)
 M_Dialect : Mk K C_Dialect f_Dialect___init__
 n_Dialect_parts : NoAttr K C_Dialect "parts"
 n_Dialect_quotes : NoAttr K C_Dialect "quotes"
 n_Dialect_frees : NoAttr K C_Dialect "frees"
 n_Dialect_twin : NoAttr K C_Dialect "twin"
 n_Dialect_wide : NoAttr K C_Dialect "wide"
 n_Dialect_thin : NoAttr K C_Dialect "thin"
 n_Dialect_stray : NoAttr K C_Dialect "stray"
 cl_Turn : Cls K C_Turn
 g_Turn : mg "Turn" = some (.ref C_Turn)
 M_Turn : Mk K C_Turn f_Turn___init__
 n_Turn_dialect : NoAttr K C_Turn "dialect"
 no_all : mg "all" = none
 no_any : mg "any" = none
 no_bool : mg "bool" = none
 no_int : mg "int" = none
 no_isinstance : mg "isinstance" = none
 no_len : mg "len" = none
 no_list : mg "list" = none
 no_ord : mg "ord" = none
 no_range : mg "range" = none
 no_reversed : mg "reversed" = none
 no_str : mg "str" = none
 no_tuple : mg "tuple" = none
 no_zip : mg "zip" = none
 gl_LINE : ∃ t, mg "LINE" = some (.str z_LINE t)
 zl_LINE : z_LINE = Str.ofString "\n"
 gl_MOST_SIGNS : ∃ t, mg "MOST_SIGNS" = some (.int 2000 t)
 gl_START : mg "START" = some (.ref a_START)
 tu_START : ∃ (o : Obj) (its : Array Value) (n : Nat), K.lookup a_START = some o ∧ o.cls = .type "tuple" ∧ o.data = .seq its n ∧ its.size ≤ sizeLine ∧ Vals [.str (Str.ofString "row"), .str (Str.ofString "")] its.toList
section
variable {P : Program} {w : World} {K : PySem.W.Frag} {mg : Str → Option Value} {base : Heap} {f_is_printable f_has_signs_alone f_is_text f_are_unlike_signs f_Dialect___init__ f_Dialect_told f_dialect_of f_step_at_beginning f_step_in_plain f_step_within f_step_behind f_step_in_doubt f_step_freed f_Turn___init__ f_Turn_step f_check_text f_walk f_end_of f_table_of f_reading_of f_is_sole f__law_cell_at f__law_mixed f__law_number f__law_some f__law_menus f__law_told f__law_made f__law_open f__law_step f__law_near f__law_others f__law_signs f__law_tokens f__law_led f__law_reads f__law_sole f__law_copy f__law_text f__law_table_of f_law C_Dialect C_Turn a_START : Addr} {fd_is_printable fd_has_signs_alone fd_is_text fd_are_unlike_signs fd_Dialect___init__ fd_Dialect_told fd_dialect_of fd_step_at_beginning fd_step_in_plain fd_step_within fd_step_behind fd_step_in_doubt fd_step_freed fd_Turn___init__ fd_Turn_step fd_check_text fd_walk fd_end_of fd_table_of fd_reading_of fd_is_sole fd__law_cell_at fd__law_mixed fd__law_number fd__law_some fd__law_menus fd__law_told fd__law_made fd__law_open fd__law_step fd__law_near fd__law_others fd__law_signs fd__law_tokens fd__law_led fd__law_reads fd__law_sole fd__law_copy fd__law_text fd__law_table_of fd_law : FuncData} {z_LINE : Str} {dt_Dialect___init__ : Addr}
def sp_is_printable : Sp := fun vs H Q _ => ∃ c : Nat, vs = [.str (sg c)] ∧ Q (.bl (decide (Pn c))) H
section
variable (T : Txt K mg f_is_printable f_has_signs_alone f_is_text f_are_unlike_signs f_Dialect___init__ f_Dialect_told f_dialect_of f_step_at_beginning f_step_in_plain f_step_within f_step_behind f_step_in_doubt f_step_freed f_Turn___init__ f_Turn_step f_check_text f_walk f_end_of f_table_of f_reading_of f_is_sole f__law_cell_at f__law_mixed f__law_number f__law_some f__law_menus f__law_told f__law_made f__law_open f__law_step f__law_near f__law_others f__law_signs f__law_tokens f__law_led f__law_reads f__law_sole f__law_copy f__law_text f__law_table_of f_law C_Dialect C_Turn a_START fd_is_printable fd_has_signs_alone fd_is_text fd_are_unlike_signs fd_Dialect___init__ fd_Dialect_told fd_dialect_of fd_step_at_beginning fd_step_in_plain fd_step_within fd_step_behind fd_step_in_doubt fd_step_freed fd_Turn___init__ fd_Turn_step fd_check_text fd_walk fd_end_of fd_table_of fd_reading_of fd_is_sole fd__law_cell_at fd__law_mixed fd__law_number fd__law_some fd__law_menus fd__law_told fd__law_made fd__law_open fd__law_step fd__law_near fd__law_others fd__law_signs fd__law_tokens fd__law_led fd__law_reads fd__law_sole fd__law_copy fd__law_text fd__law_table_of fd_law z_LINE dt_Dialect___init__)
include T
theorem ok_is_printable : FnOk P w K mg base CX0 1 f_is_printable fd_is_printable ["sign"] sp_is_printable := by
 refine T.F_is_printable.ok sc_is_printable (fun vs H Q E h => ?_) (fun cdv A outer s H vs Q E hr h => ?_)
 · obtain ⟨c, rfl, _⟩ := h; rfl
 · have hu := hu_of hr
   have hu0 := hr.units0
   obtain ⟨c, rfl, k⟩ := h
   refine ⟨_, (pss_cons (ps_set (i := 1) sc_is_printable.nd rfl (by first | exact Or.inl rfl | exact Or.inr rfl) (pe_callB call_ord rfl T.no_ord (by decide +kernel) (pa_cons (pv 0) pa_nil)))
     (pss_one (ps_ret (pe_and (pe_cmpR op_ge (pv 1) pe_int (nomark _)) (pe_and (pe_cmpR op_le (pv 1) pe_int (nomark _)) (pe_one (pe_cmpR op_ne (pv 1) pe_int (nomark _)))))))), ?_⟩
   refine ⟨_, rfl, _, rfl, rfl, ?_⟩
   refine ⟨_, rfl, _, _, rfl, rfl, _, rfl, ite2 (fun h1 => ?_) (fun h1 => ?_)⟩
   · have h1 : (32 : Int) ≤ ((c : Nat) : Int) := of_decide_eq_true h1
     refine ⟨_, rfl, _, _, rfl, rfl, _, rfl, ite2 (fun h2 => ?_) (fun h2 => ?_)⟩
     · have h2 : ((c : Nat) : Int) ≤ 126 := of_decide_eq_true h2
       refine ⟨_, rfl, rfl, ?_⟩
       have e : (!decide (V.int ((c : Nat) : Int) = V.int 37)) = decide (Pn c) := by
         by_cases h3 : c = 37
         · subst h3; decide
         · have n1 : ¬ (V.int ((c : Nat) : Int) = V.int 37) := fun z => h3 (by injection z with z; omega)
           rw [decide_eq_false n1, decide_eq_true (show Pn c from ⟨by omega, by omega, h3⟩)]; rfl
       show Q (.bl (!decide (V.int ((c : Nat) : Int) = V.int 37))) H
       rw [e]; exact k
     · have e : decide (((c : Nat) : Int) ≤ 126) = decide (Pn c) := by
         have n1 : ¬ ((c : Nat) : Int) ≤ 126 := fun z => h2 (decide_eq_true z)
         rw [decide_eq_false n1, decide_eq_false (fun z : Pn c => n1 (by have := z.2.1; omega))]
       rw [← e, show decide (((c : Nat) : Int) ≤ 126) = false from Bool.eq_false_iff.mpr h2] at k
       exact k
   · have e : decide ((32 : Int) ≤ ((c : Nat) : Int)) = decide (Pn c) := by
       have n1 : ¬ (32 : Int) ≤ ((c : Nat) : Int) := fun z => h1 (decide_eq_true z)
       rw [decide_eq_false n1, decide_eq_false (fun z : Pn c => n1 (by have := z.1; omega))]
     rw [← e, show decide ((32 : Int) ≤ ((c : Nat) : Int)) = false from Bool.eq_false_iff.mpr h1] at k
     exact k
def sp_has_signs_alone : Sp := fun vs H Q _ => ∃ z : Str, vs = [.str z] ∧ z.length ≤ 2000 ∧ ∀ H', Same H H' → Q (.bl (textOk z)) H'
theorem ok_has_signs_alone : FnOk P w K mg base CX0 2 f_has_signs_alone fd_has_signs_alone ["text"] sp_has_signs_alone := by
 have G_is_printable : FnOk P w K mg base CX0 1 f_is_printable fd_is_printable ["sign"] sp_is_printable := ok_is_printable T
 refine T.F_has_signs_alone.ok sc_has_signs_alone (fun vs H Q E h => ?_) (fun cdv A outer s H vs Q E hr h => ?_)
 · obtain ⟨z, rfl, _⟩ := h; rfl
 · have hu := hu_of hr
   have hu0 := hr.units0
   obtain ⟨z, rfl, hz, k⟩ := h
   refine ⟨_, (pss_one (ps_ret (pe_callB (callK_all K rfl rfl) rfl T.no_all (by decide +kernel) (pa_cons (pe_comp rfl (show CompScope ["text"] (defScope s_has_signs_alone) ["sign"] 1 [] _ from ⟨rfl, by decide +kernel, by decide +kernel, by decide +kernel, by decide +kernel, rfl, rfl, by decide +kernel⟩) (pi_str (pv 0)) (fun _ _ _ _ => (pg_name (i := 0) (show (["sign"] : List Str).Nodup by decide +kernel) rfl (by first | exact Or.inl rfl | exact Or.inr rfl))) (fun _ _ _ _ => pif_nil) (fun _ _ _ _ => (pe_or (pe_cmpR op_eq (pv 0) (pe_gstr rfl T.gl_LINE.choose_spec) (nomark _)) (pe_one (pe_call (k := 1) G_is_printable (hr.mono (by decide)) rfl T.g_is_printable T.F_is_printable.kp T.b_is_printable .nil pass0 (pa_cons (pv 0) pa_nil)))))) pa_nil)))), ?_⟩
   refine ⟨_, rfl, z, rfl, fun D hD => ?_⟩
   have hsz : z.cps.toList.length = z.length := by rw [Array.length_toList]; rfl
   refine comp_str (fun i ys τ H2 => (∃ v, τ = [v]) ∧ Same H H2 ∧ H2 D = some (.lst ys) ∧ ys = ((z.cps.toList.take i).map okc).map V.bl) ⟨⟨_, rfl⟩, same_new hD, upd_same, rfl⟩ (fun i ys τ H2 _ p => p.2.2.1) ?_ ?_
   · rintro i c ys τ H2 hi ⟨⟨v, rfl⟩, s2, hl, rfl⟩
     have hil : i < z.cps.toList.length := (List.getElem?_eq_some_iff.mp hi).1
     have hlen : (((z.cps.toList.take i).map okc).map V.bl).length < sizeLine := by
       rw [List.length_map, List.length_map, List.length_take]
       exact Nat.lt_of_le_of_lt (show min i z.cps.toList.length ≤ 2000 by omega) (by decide)
     have fin : ∀ b, b = okc c → H2 D = some (.lst (((z.cps.toList.take i).map okc).map V.bl)) ∧ (((z.cps.toList.take i).map okc).map V.bl).length < sizeLine ∧ (∃ v, [some (V.str (sg c))] = [v]) ∧ Same H (upd H2 D (.lst (((z.cps.toList.take i).map okc).map V.bl ++ [.bl b]))) ∧ (upd H2 D (.lst (((z.cps.toList.take i).map okc).map V.bl ++ [.bl b]))) D = some (.lst (((z.cps.toList.take i).map okc).map V.bl ++ [.bl b])) ∧ ((z.cps.toList.take i).map okc).map V.bl ++ [.bl b] = ((z.cps.toList.take (i + 1)).map okc).map V.bl := fun b hb => by
       refine ⟨hl, hlen, ⟨_, rfl⟩, same_set hD s2, upd_same, ?_⟩
       rw [take_snocG hi, List.map_append, List.map_append, hb]; rfl
     refine gyes ?_
     refine ⟨_, rfl, rfl, _, rfl, ite2 (fun h => ?_) (fun h => ?_)⟩
     · have h : decide (V.str (sg c) = V.str z_LINE) = true := h
       have hc : c = 10 := by
         have e := of_decide_eq_true h
         rw [T.zl_LINE] at e
         have e2 : sg c = sg 10 := (V.str.inj e).trans (by decide +kernel)
         have := congrArg (fun z : Str => z.cps.toList) e2
         exact (List.cons.inj (show [c] = [10] from this)).1
       exact fin true (by rw [hc]; exact (decide_eq_true (.inl rfl)).symm)
     · have hc : c ≠ 10 := sgL T.zl_LINE h
       refine ⟨_, rfl, c, rfl, fin _ ?_⟩
       unfold okc
       by_cases hp : Pn c
       · rw [decide_eq_true hp, decide_eq_true (.inr hp)]
       · rw [decide_eq_false hp, decide_eq_false (fun z => z.elim hc hp)]
   · rintro ys τ H2 ⟨⟨v, rfl⟩, s2, hl, rfl⟩
     refine ⟨D, (z.cps.toList.take z.cps.toList.length).map okc, rfl, SqL.of hl, ?_⟩
     have e : ((z.cps.toList.take z.cps.toList.length).map okc).all id = textOk z := by
       rw [List.take_of_length_le (Nat.le_refl _), List.all_map]; rfl
     rw [e]
     exact k H2 s2
def sp_is_text (K : PySem.W.Frag) : Sp := fun vs H Q _ => ∃ v : V, vs = [v] ∧ Knd H v ∧ (∀ z, v = .str z → z.length ≤ 10000) ∧ ∀ H', Same H H' → Q (.bl (isT v)) H'
theorem ok_is_text : FnOk P w K mg base CX0 3 f_is_text fd_is_text ["thing"] (sp_is_text K) := by
 have G_has_signs_alone : FnOk P w K mg base CX0 2 f_has_signs_alone fd_has_signs_alone ["text"] sp_has_signs_alone := ok_has_signs_alone T
 refine T.F_is_text.ok sc_is_text (fun vs H Q E h => ?_) (fun cdv A outer s H vs Q E hr h => ?_)
 · obtain ⟨v, rfl, _⟩ := h; rfl
 · have hu := hu_of hr
   have hu0 := hr.units0
   obtain ⟨v, rfl, hk, hb, k⟩ := h
   refine ⟨_, (pss_cons (ps_if (PW.pt (pw_or (pt_not (pt_val (pe_callB (callK_isinst K rfl) rfl T.no_isinstance (by decide +kernel) (pa_cons (pv 0) (pa_cons (pe_bty "str" rfl T.no_str (by decide +kernel)) pa_nil))))) (pw_or1 (pt_cmpR op_gt (pe_callB call_len_str rfl T.no_len (by decide +kernel) (pa_cons (pv 0) pa_nil)) (pe_gint rfl T.gl_MOST_SIGNS.choose_spec) (nomark _))))) (pss_one (ps_ret pe_bl)) pss_nil)
     (pss_one (ps_ret (pe_call (k := 2) G_has_signs_alone (hr.mono (by decide)) rfl T.g_has_signs_alone T.F_has_signs_alone.kp T.b_has_signs_alone .nil pass0 (pa_cons (pv 0) pa_nil))))), ?_⟩
   cases hk with
   | str z =>
     have hb := hb z rfl
     refine ⟨_, rfl, _, _, _, true, rfl, .str _, .inl ⟨_, rfl, rfl⟩, true, rfl, iteF ⟨_, rfl, z, rfl, Nat.le_trans hb (by decide), _, _, rfl, rfl, _, rfl, ite2 (fun h1 => ?_) (fun h1 => ?_)⟩⟩
     · have e : isT (.str z) = false := by
         have n1 : ¬ z.length ≤ 2000 := fun h2 => by have := of_decide_eq_true h1; omega
         show (decide (z.length ≤ 2000) && textOk z) = false
         rw [decide_eq_false n1]; rfl
       have kk := k H (Same.refl H)
       rw [e] at kk
       exact kk
     · have n1 : z.length ≤ 2000 := by
         rcases Nat.lt_or_ge 2000 z.length with h2 | h2
         · exact absurd (decide_eq_true (show (2000 : Int) < (z.length : Int) by omega)) h1
         · exact h2
       have e : isT (.str z) = textOk z := by
         show (decide (z.length ≤ 2000) && textOk z) = _
         rw [decide_eq_true n1]; rfl
       rw [e] at k
       exact ⟨_, rfl, z, rfl, n1, k⟩
   | non => exact ⟨_, rfl, _, _, _, false, rfl, .non, .inl ⟨_, rfl, rfl⟩, false, rfl, iteT (k H (Same.refl H))⟩
   | bl b => exact ⟨_, rfl, _, _, _, false, rfl, .bl _, .inl ⟨_, rfl, rfl⟩, false, rfl, iteT (k H (Same.refl H))⟩
   | int n => exact ⟨_, rfl, _, _, _, false, rfl, .int _, .inl ⟨_, rfl, rfl⟩, false, rfl, iteT (k H (Same.refl H))⟩
   | lst e f => exact ⟨_, rfl, _, _, _, false, rfl, .lst e, .inl ⟨_, rfl, rfl⟩, false, rfl, iteT (k H (Same.refl H))⟩
   | tup e f => exact ⟨_, rfl, _, _, _, false, rfl, .tup e, .inl ⟨_, rfl, rfl⟩, false, rfl, iteT (k H (Same.refl H))⟩
   | dic e f => exact ⟨_, rfl, _, _, _, false, rfl, .dK e, .inl ⟨_, rfl, rfl⟩, false, rfl, iteT (k H (Same.refl H))⟩
def sp_are_unlike_signs : Sp := fun vs H Q _ => ∃ (z : Str) (lo hi : Int), vs = [.str z, .int lo, .int hi] ∧ Sg z ∧ lo ≤ z.length ∧ (z.length : Int) ≤ hi ∧ z.length ≤ 1000 ∧ ∀ H', Same H H' → Q (.bl true) H'
theorem ok_are_unlike_signs : FnOk P w K mg base CX0 2 f_are_unlike_signs fd_are_unlike_signs ["thing", "least", "most"] sp_are_unlike_signs := by
 have G_is_printable : FnOk P w K mg base CX0 1 f_is_printable fd_is_printable ["sign"] sp_is_printable := ok_is_printable T
 refine T.F_are_unlike_signs.ok sc_are_unlike_signs (fun vs H Q E h => ?_) (fun cdv A outer s H vs Q E hr h => ?_)
 · obtain ⟨z, lo, hi, rfl, _⟩ := h; rfl
 · have hu := hu_of hr
   have hu0 := hr.units0
   obtain ⟨z, lo, hi, rfl, g, hlo, hhi, hz, k⟩ := h
   have hzl : z.length ≤ sizeLine := Nat.le_trans hz (by decide)
   refine ⟨_, (pss_cons (ps_if (PW.pt (pw_or (pt_not (pt_val (pe_callB (callK_isinst K rfl) rfl T.no_isinstance (by decide +kernel) (pa_cons (pv 0) (pa_cons (pe_bty "str" rfl T.no_str (by decide +kernel)) pa_nil))))) (pw_or (pt_cmpR op_lt (pe_callB call_len_str rfl T.no_len (by decide +kernel) (pa_cons (pv 0) pa_nil)) (pv 1) (nomark _)) (pw_or1 (pt_cmpR op_gt (pe_callB call_len_str rfl T.no_len (by decide +kernel) (pa_cons (pv 0) pa_nil)) (pv 2) (nomark _)))))) (pss_one (ps_ret pe_bl)) pss_nil)
     (pss_one (ps_ret (pe_callB (callK_all K rfl rfl) rfl T.no_all (by decide +kernel) (pa_cons (pe_comp rfl (show CompScope ["thing", "least", "most"] (defScope s_are_unlike_signs) ["sign", "thing"] 1 [0] _ from ⟨rfl, by decide +kernel, by decide +kernel, by decide +kernel, by decide +kernel, rfl, rfl, by decide +kernel⟩) (pi_str (pv 0)) (fun _ _ _ _ => (pg_name (i := 0) (show (["sign", "thing"] : List Str).Nodup by decide +kernel) rfl (by first | exact Or.inl rfl | exact Or.inr rfl))) (fun _ _ _ _ => pif_nil) (fun _ _ _ _ => (pe_and (pe_call (k := 1) G_is_printable (hr.mono (by decide)) rfl T.g_is_printable T.F_is_printable.kp T.b_is_printable .nil pass0 (pa_cons (pv 0) pa_nil)) (pe_one (pe_cmpR op_eq (peK_bm K rfl PySem.F.plainAttrs_str PySem.F.slot_str_count PySem.F.type_str_count mt_count (pv 1) (pa_cons (pv 0) pa_nil)) pe_int (nomark _)))))) pa_nil))))), ?_⟩
   refine ⟨_, rfl, _, _, _, true, rfl, .str _, .inl ⟨_, rfl, rfl⟩, true, rfl, iteF ?_⟩
   refine ⟨_, rfl, z, rfl, hzl, _, rfl, _, _, rfl, rfl, _, rfl, iteDn (by omega) ?_⟩
   refine ⟨_, rfl, z, rfl, hzl, _, rfl, _, _, rfl, rfl, _, rfl, iteDn (by omega) ?_⟩
   refine ⟨_, rfl, z, rfl, fun D hD => ?_⟩
   have hsz : z.cps.toList.length = z.length := by rw [Array.length_toList]; rfl
   refine comp_str (fun i ys τ H2 => (∃ v, τ = [v, some (.str z)]) ∧ Same H H2 ∧ H2 D = some (.lst ys) ∧ ys = (List.replicate i true).map V.bl) ⟨⟨_, rfl⟩, same_new hD, upd_same, rfl⟩ (fun i ys τ H2 _ p => p.2.2.1) ?_ ?_
   · rintro i c ys τ H2 hi ⟨⟨v, rfl⟩, s2, hl, rfl⟩
     have hc : c ∈ z.cps.toList := List.mem_of_getElem? hi
     have hil : i < z.cps.toList.length := (List.getElem?_eq_some_iff.mp hi).1
     refine gyes ?_
     refine ⟨_, rfl, c, rfl, _, rfl, iteBt (decide_eq_true (g.pr c hc)) ?_⟩
     refine ⟨_, rfl, rfl, _, rfl, z, c, rfl, rfl, rfl, ?_⟩
     have e : decide (V.int (PyProof.Rows.cnt c z.cps.toList) = V.int 1) = true := by rw [cnt_one g.nd hc]; exact decide_eq_true rfl
     rw [e]
     refine ⟨hl, ?_, ⟨_, rfl⟩, same_set hD s2, upd_same, ?_⟩
     · rw [List.length_map, List.length_replicate]
       exact Nat.lt_of_lt_of_le (show i < 1001 by omega) (by decide)
     · rw [List.replicate_succ', List.map_append]; rfl
   · rintro ys τ H2 ⟨⟨v, rfl⟩, s2, hl, rfl⟩
     refine ⟨D, List.replicate _ true, rfl, SqL.of hl, ?_⟩
     have e : (List.replicate z.cps.toList.length true).all id = true := by
       rw [List.all_eq_true]
       intro b hb
       exact (List.mem_replicate.mp hb).2
     rw [e]
     exact k H2 s2
def sp_Dialect___init__ (C : Addr) : Sp := fun vs H Q _ => ∃ (x dx : Addr) (p q f : Str) (b1 b2 b3 b4 : Bool), vs = .ref x :: seven p q f b1 b2 b3 b4 ∧ H x = some (.ins C dx []) ∧ Gd p q f ∧ ∀ H', H' x = some (.ins C dx (dfl p q f b1 b2 b3 b4)) → (∀ b o, H b = some o → b ≠ x → H' b = some o) → Q .non H'
theorem ok_Dialect___init__ : FnOk P w K mg base CX0 3 f_Dialect___init__ fd_Dialect___init__ ["self", "parts", "quotes", "frees", "twin", "wide", "thin", "stray"] (sp_Dialect___init__ C_Dialect) := by
 have G_are_unlike_signs : FnOk P w K mg base CX0 2 f_are_unlike_signs fd_are_unlike_signs ["thing", "least", "most"] sp_are_unlike_signs := ok_are_unlike_signs T
 refine T.F_Dialect___init__.ok sc_Dialect___init__ (fun vs H Q E h => ?_) (fun cdv A outer s H vs Q E hr h => ?_)
 · obtain ⟨x, dx, p, q, f, b1, b2, b3, b4, rfl, _⟩ := h; rfl
 · have hu := hu_of hr
   have hu0 := hr.units0
   obtain ⟨x, dx, p, q, f, b1, b2, b3, b4, rfl, hx, g, k⟩ := h
   have hp1 := g.p1; have hp3 := g.p3; have hq2 := g.q2; have hf2 := g.f2
   refine ⟨_, (pss_cons (ps_if (pt_not (pt_val (pe_call (k := 2) G_are_unlike_signs (hr.mono (by decide)) rfl T.g_are_unlike_signs T.F_are_unlike_signs.kp T.b_are_unlike_signs .nil pass0 (pa_cons (pv 1) (pa_cons pe_int (pa_cons pe_int pa_nil)))))) (pss_one ps_never) pss_nil)
     (pss_cons (ps_if (pt_not (pt_val (pe_call (k := 2) G_are_unlike_signs (hr.mono (by decide)) rfl T.g_are_unlike_signs T.F_are_unlike_signs.kp T.b_are_unlike_signs .nil pass0 (pa_cons (pv 2) (pa_cons pe_int (pa_cons pe_int pa_nil)))))) (pss_one ps_never) pss_nil)
     (pss_cons (ps_if (pt_not (pt_val (pe_call (k := 2) G_are_unlike_signs (hr.mono (by decide)) rfl T.g_are_unlike_signs T.F_are_unlike_signs.kp T.b_are_unlike_signs .nil pass0 (pa_cons (pv 3) (pa_cons pe_int (pa_cons pe_int pa_nil)))))) (pss_one ps_never) pss_nil)
     (pss_cons (ps_for PassesOwn.never rfl (piK_tup K rfl (pe_tup (pa_cons (pv 4) (pa_cons (pv 5) (pa_cons (pv 6) (pa_cons (pv 7) pa_nil)))))) (pg_name (i := 8) sc_Dialect___init__.nd rfl (by first | exact Or.inl rfl | exact Or.inr rfl))
     (pss_one (ps_if (pt_not (pt_val (pe_callB (callK_isinst K rfl) rfl T.no_isinstance (by decide +kernel) (pa_cons (pv 8) (pa_cons (pe_bty "bool" rfl T.no_bool (by decide +kernel)) pa_nil))))) (pss_one ps_never) pss_nil)))
     (pss_cons (ps_fld (pv 0) (pv 1) rfl)
     (pss_cons (ps_fld (pv 0) (pv 2) rfl)
     (pss_cons (ps_fld (pv 0) (pv 3) rfl)
     (pss_cons (ps_fld (pv 0) (pv 4) rfl)
     (pss_cons (ps_fld (pv 0) (pv 5) rfl)
     (pss_cons (ps_fld (pv 0) (pv 6) rfl)
     (pss_one (ps_fld (pv 0) (pv 7) rfl)))))))))))), ?_⟩
   refine ⟨_, rfl, p, 1, 3, rfl, g.gp, by omega, by omega, by omega, fun H1 s1 => ⟨true, rfl, iteF ?_⟩⟩
   refine ⟨_, rfl, q, 0, 2, rfl, g.gq, by omega, by omega, by omega, fun H2 s2 => ⟨true, rfl, iteF ?_⟩⟩
   refine ⟨_, rfl, f, 0, 2, rfl, g.gf, by omega, by omega, by omega, fun H3 s3 => ⟨true, rfl, iteF ?_⟩⟩
   refine ⟨_, rfl, _, rfl, _, rfl, _, rfl, (by show 4 ≤ sizeLine; decide), fun t ht => ⟨t, rfl, ⟨_, SqT.of upd_same⟩, ?_⟩⟩
   have s03 : Same H (upd H3 t (.tup [.bl b1, .bl b2, .bl b3, .bl b4])) := ((s1.trans s2).trans s3).trans (same_new ht)
   have htt : (upd H3 t (.tup [.bl b1, .bl b2, .bl b3, .bl b4])) t = some (.tup [.bl b1, .bl b2, .bl b3, .bl b4]) := upd_same
   generalize upd H3 t (.tup [.bl b1, .bl b2, .bl b3, .bl b4]) = H4 at s03 htt ⊢
   refine for_tup (K := K) (a := t) (xs := [.bl b1, .bl b2, .bl b3, .bl b4]) (fun i σ H5 => H5 = H4 ∧ ∃ v, σ = [some (.ref x), some (.str p), some (.str q), some (.str f), some (.bl b1), some (.bl b2), some (.bl b3), some (.bl b4), v]) ⟨rfl, _, rfl⟩ (fun i σ H5 _ q => by rw [q.1]; exact SqT.of htt) ?_ ?_
   · rintro i y σ H5 hi ⟨rfl, v, rfl⟩
     obtain ⟨b, rfl⟩ : ∃ b, y = V.bl b := by
       have hi4 : i < 4 := (List.getElem?_eq_some_iff.mp hi).1
       match i, hi4, hi with
       | 0, _, hi => exact ⟨_, (Option.some.inj hi).symm⟩
       | 1, _, hi => exact ⟨_, (Option.some.inj hi).symm⟩
       | 2, _, hi => exact ⟨_, (Option.some.inj hi).symm⟩
       | 3, _, hi => exact ⟨_, (Option.some.inj hi).symm⟩
     refine ⟨_, rfl, _, _, _, true, rfl, .bl _, .inl ⟨_, rfl, rfl⟩, true, rfl, iteF ?_⟩
     exact ⟨rfl, _, rfl⟩
   · rintro σ H5 ⟨rfl, v, rfl⟩
     have hx5 := s03 _ _ hx
     refine ⟨_, rfl, _, rfl, x, C_Dialect, dx, _, rfl, hx5, T.cl_Dialect, T.n_Dialect_parts, (by show 0 < 1000; decide), _, rfl, _, rfl, x, C_Dialect, dx, _, rfl, upd_same, T.cl_Dialect, T.n_Dialect_quotes, (by show 1 < 1000; decide), _, rfl, _, rfl, x, C_Dialect, dx, _, rfl, upd_same, T.cl_Dialect, T.n_Dialect_frees, (by show 2 < 1000; decide), _, rfl, _, rfl, x, C_Dialect, dx, _, rfl, upd_same, T.cl_Dialect, T.n_Dialect_twin, (by show 3 < 1000; decide),
       _, rfl, _, rfl, x, C_Dialect, dx, _, rfl, upd_same, T.cl_Dialect, T.n_Dialect_wide, (by show 4 < 1000; decide), _, rfl, _, rfl, x, C_Dialect, dx, _, rfl, upd_same, T.cl_Dialect, T.n_Dialect_thin, (by show 5 < 1000; decide), _, rfl, _, rfl, x, C_Dialect, dx, _, rfl, upd_same, T.cl_Dialect, T.n_Dialect_stray, (by show 6 < 1000; decide), ?_⟩
     refine k _ upd_same fun b o e hb => ?_
     rw [upd_ne hb, upd_ne hb, upd_ne hb, upd_ne hb, upd_ne hb, upd_ne hb, upd_ne hb]
     exact s03 _ _ e
def sp_Dialect_told (C : Addr) : Sp := fun vs H Q _ => ∃ (x dx : Addr) (p q f : Str) (b1 b2 b3 b4 : Bool), vs = [.ref x] ∧ H x = some (.ins C dx (dfl p q f b1 b2 b3 b4)) ∧ ∀ t, H t = none → Q (.ref t) (upd H t (.tup (seven p q f b1 b2 b3 b4)))
theorem ok_Dialect_told : FnOk P w K mg base CX0 1 f_Dialect_told fd_Dialect_told ["self"] (sp_Dialect_told C_Dialect) := by
 refine T.F_Dialect_told.ok sc_Dialect_told (fun vs H Q E h => ?_) (fun cdv A outer s H vs Q E hr h => ?_)
 · obtain ⟨x, dx, p, q, f, b1, b2, b3, b4, rfl, _⟩ := h; rfl
 · have hu := hu_of hr
   have hu0 := hr.units0
   obtain ⟨x, dx, p, q, f, b1, b2, b3, b4, rfl, hx, k⟩ := h
   refine ⟨_, (pss_one (ps_ret (pe_tup (pa_cons (peK_fld K rfl (pv 0) rfl) (pa_cons (peK_fld K rfl (pv 0) rfl) (pa_cons (peK_fld K rfl (pv 0) rfl) (pa_cons (peK_fld K rfl (pv 0) rfl) (pa_cons (peK_fld K rfl (pv 0) rfl) (pa_cons (peK_fld K rfl (pv 0) rfl) (pa_cons (peK_fld K rfl (pv 0) rfl) pa_nil)))))))))), ?_⟩
   refine ⟨_, rfl, x, C_Dialect, dx, _, _, rfl, hx, T.cl_Dialect, T.n_Dialect_parts, rfl, _, rfl, x, C_Dialect, dx, _, _, rfl, hx, T.cl_Dialect, T.n_Dialect_quotes, rfl, _, rfl, x, C_Dialect, dx, _, _, rfl, hx, T.cl_Dialect, T.n_Dialect_frees, rfl, _, rfl, x, C_Dialect, dx, _, _, rfl, hx, T.cl_Dialect, T.n_Dialect_twin, rfl, _, rfl, x, C_Dialect, dx, _, _, rfl, hx, T.cl_Dialect, T.n_Dialect_wide, rfl, _, rfl, x, C_Dialect, dx, _, _, rfl, hx, T.cl_Dialect, T.n_Dialect_thin, rfl, _, rfl, x, C_Dialect, dx, _, _, rfl, hx, T.cl_Dialect, T.n_Dialect_stray, rfl, (by show 7 ≤ sizeLine; decide), fun t ht => ?_⟩
   exact k t ht
def sp_dialect_of (C : Addr) : Sp := fun vs H Q _ => ∃ (t : Addr) (p q f : Str) (b1 b2 b3 b4 : Bool), vs = [.ref t] ∧ H t = some (.tup (seven p q f b1 b2 b3 b4)) ∧ Gd p q f ∧ ∀ (x dx : Addr) (H' : Hp), H x = none → H' x = some (.ins C dx (dfl p q f b1 b2 b3 b4)) → Same H H' → Q (.ref x) H'
theorem ok_dialect_of : FnOk P w K mg base CX0 5 f_dialect_of fd_dialect_of ["told"] (sp_dialect_of C_Dialect) := by
 have G_Dialect___init__ : FnOk P w K mg base CX0 3 f_Dialect___init__ fd_Dialect___init__ ["self", "parts", "quotes", "frees", "twin", "wide", "thin", "stray"] (sp_Dialect___init__ C_Dialect) := ok_Dialect___init__ T
 refine T.F_dialect_of.ok sc_dialect_of (fun vs H Q E h => ?_) (fun cdv A outer s H vs Q E hr h => ?_)
 · obtain ⟨t, p, q, f, b1, b2, b3, b4, rfl, _⟩ := h; rfl
 · have hu := hu_of hr
   have hu0 := hr.units0
   obtain ⟨t, p, q, f, b1, b2, b3, b4, rfl, ht, g, k⟩ := h
   have hS : SqT K H t (seven p q f b1 b2 b3 b4) := SqT.of ht
   refine ⟨_, (pss_cons (ps_if (PW.pt (pw_or (pt_not (pt_val (pe_callB (callK_isseq K rfl) rfl T.no_isinstance (by decide +kernel) (pa_cons (pv 0) (pa_cons (pe_bty "tuple" rfl T.no_tuple (by decide +kernel)) pa_nil))))) (pw_or1 (pt_cmpR op_ne (pe_callB (callK_len_seq K rfl) rfl T.no_len (by decide +kernel) (pa_cons (pv 0) pa_nil)) pe_int (nomark _))))) (pss_one ps_never) pss_nil)
     (pss_one (ps_ret (pe_make (k := 3) T.M_Dialect G_Dialect___init__ (hr.mono (by decide)) rfl T.g_Dialect T.b_Dialect___init__ .nil pass0 (pa_cons (pe_ix (ixK_tup K rfl) (pv 0) pe_int (fun _ _ => rfl)) (pa_cons (pe_ix (ixK_tup K rfl) (pv 0) pe_int (fun _ _ => rfl)) (pa_cons (pe_ix (ixK_tup K rfl) (pv 0) pe_int (fun _ _ => rfl)) (pa_cons (pe_ix (ixK_tup K rfl) (pv 0) pe_int (fun _ _ => rfl)) (pa_cons (pe_ix (ixK_tup K rfl) (pv 0) pe_int (fun _ _ => rfl)) (pa_cons (pe_ix (ixK_tup K rfl) (pv 0) pe_int (fun _ _ => rfl)) (pa_cons (pe_ix (ixK_tup K rfl) (pv 0) pe_int (fun _ _ => rfl)) pa_nil))))))))))), ?_⟩
   refine ⟨_, rfl, t, _, _, true, rfl, .inl ⟨hS, rfl⟩, true, rfl, iteF ?_⟩
   refine ⟨_, rfl, t, _, rfl, .inr hS, rfl, _, rfl, iteNS rfl ?_⟩
   refine ⟨_, rfl, t, _, _, _, rfl, rfl, hS, rfl, _, rfl, t, _, _, _, rfl, rfl, hS, rfl, _, rfl, t, _, _, _, rfl, rfl, hS, rfl, _, rfl, t, _, _, _, rfl, rfl, hS, rfl, _, rfl, t, _, _, _, rfl, rfl, hS, rfl, _, rfl, t, _, _, _, rfl, rfl, hS, rfl, _, rfl, t, _, _, _, rfl, rfl, hS, rfl, fun x dx hx hdx ne => ?_⟩
   refine ⟨x, dx, p, q, f, b1, b2, b3, b4, rfl, upd_same, g, fun H2 h2 kp => ⟨rfl, k x dx H2 hx h2 fun b o e => kp b o ?_ (ne_of_none e hx)⟩⟩
   rw [upd_ne (ne_of_none e hx), upd_ne (ne_of_none e hdx)]
   exact e
def sp_step_at_beginning (K : PySem.W.Frag) (C : Addr) : Sp := fun vs H Q _ => ∃ (x dx : Addr) (p q f : Str) (b1 b2 b3 b4 : Bool) (s : Addr) (w u : Str) (c : Nat), vs = [.ref x, .ref s, .str (sg c)] ∧ H x = some (.ins C dx (dfl p q f b1 b2 b3 b4)) ∧ SqT K H s [.str w, .str u] ∧ ∀ v H', Same H H' → RelR K H' v (mBegin p q f b3 w u c) → Q v H'
theorem ok_step_at_beginning : FnOk P w K mg base CX0 1 f_step_at_beginning fd_step_at_beginning ["dialect", "state", "sign"] (sp_step_at_beginning K C_Dialect) := by
 refine T.F_step_at_beginning.ok sc_step_at_beginning (fun vs H Q E h => ?_) (fun cdv A outer s H vs Q E hr h => ?_)
 · obtain ⟨x, dx, p, q, f, b1, b2, b3, b4, s, w, u, c, rfl, _⟩ := h; rfl
 · have hu := hu_of hr
   have hu0 := hr.units0
   obtain ⟨x, dx, p, q, f, b1, b2, b3, b4, s, w, u, c, rfl, hx, hs, k⟩ := h
   refine' ⟨_, ?aa, ?bb⟩
   case aa =>
     refine' pss_cons ?s0 ?r0
     case s0 =>
       refine' ps_if ?c1 ?b1 ?e1
       case c1 => exact (pt_cmpR op_in_str (pv 2) (peK_fld K rfl (pv 0) rfl) rfl)
       case b1 =>
         refine' pss_one ?s2
         case s2 =>
           refine' ps_ret ?v3
           case v3 =>
             refine' pe_tup ?a4
             case a4 =>
               refine' pa_cons ?x5 ?y5 ?z5
               case z5 => exact rfl
               case x5 =>
                 exact pe_str
               case y5 =>
                 refine' pa_cons ?x6 ?y6 ?z6
                 case z6 => exact rfl
                 case x6 =>
                   refine' pe_tup ?a7
                   case a7 =>
                     refine' pa_cons ?x8 ?y8 ?z8
                     case z8 => exact rfl
                     case x8 =>
                       exact pe_str
                     case y8 =>
                       refine' pa_cons ?x9 ?y9 ?z9
                       case z9 => exact rfl
                       case x9 =>
                         exact pe_str
                       case y9 =>
                         exact pa_nil
                 case y6 =>
                   exact pa_nil
       case e1 =>
         exact pss_nil
     case r0 =>
       refine' pss_cons ?s10 ?r10
       case s10 =>
         refine' ps_if ?c11 ?b11 ?e11
         case c11 => exact (pt_cmpR op_eq (pv 2) (pe_gstr rfl T.gl_LINE.choose_spec) (nomark _))
         case b11 =>
           refine' pss_one ?s12
           case s12 =>
             refine' ps_ret ?v13
             case v13 =>
               refine' pe_tup ?a14
               case a14 =>
                 refine' pa_cons ?x15 ?y15 ?z15
                 case z15 => exact rfl
                 case x15 =>
                   exact pe_str
                 case y15 =>
                   refine' pa_cons ?x16 ?y16 ?z16
                   case z16 => exact rfl
                   case x16 =>
                     exact (pe_gref rfl T.gl_START)
                   case y16 =>
                     exact pa_nil
         case e11 =>
           exact pss_nil
       case r10 =>
         refine' pss_cons ?s17 ?r17
         case s17 =>
           refine' ps_if ?c18 ?b18 ?e18
           case c18 => exact (pt_cmpR op_in_str (pv 2) (peK_fld K rfl (pv 0) rfl) rfl)
           case b18 =>
             refine' pss_one ?s19
             case s19 =>
               refine' ps_ret ?v20
               case v20 =>
                 refine' pe_tup ?a21
                 case a21 =>
                   refine' pa_cons ?x22 ?y22 ?z22
                   case z22 => exact rfl
                   case x22 =>
                     exact pe_str
                   case y22 =>
                     refine' pa_cons ?x23 ?y23 ?z23
                     case z23 => exact rfl
                     case x23 =>
                       refine' pe_tup ?a24
                       case a24 =>
                         refine' pa_cons ?x25 ?y25 ?z25
                         case z25 => exact rfl
                         case x25 =>
                           exact pe_str
                         case y25 =>
                           refine' pa_cons ?x26 ?y26 ?z26
                           case z26 => exact rfl
                           case x26 =>
                             exact (pv 2)
                           case y26 =>
                             exact pa_nil
                     case y23 =>
                       exact pa_nil
           case e18 =>
             exact pss_nil
         case r17 =>
           refine' pss_cons ?s27 ?r27
           case s27 =>
             refine' ps_if ?c28 ?b28 ?e28
             case c28 => exact (pt_cmpR op_in_str (pv 2) (peK_fld K rfl (pv 0) rfl) rfl)
             case b28 =>
               refine' pss_one ?s29
               case s29 =>
                 refine' ps_ret ?v30
                 case v30 =>
                   refine' pe_tup ?a31
                   case a31 =>
                     refine' pa_cons ?x32 ?y32 ?z32
                     case z32 => exact rfl
                     case x32 =>
                       exact pe_str
                     case y32 =>
                       refine' pa_cons ?x33 ?y33 ?z33
                       case z33 => exact rfl
                       case x33 =>
                         refine' pe_tup ?a34
                         case a34 =>
                           refine' pa_cons ?x35 ?y35 ?z35
                           case z35 => exact rfl
                           case x35 =>
                             exact pe_str
                           case y35 =>
                             refine' pa_cons ?x36 ?y36 ?z36
                             case z36 => exact rfl
                             case x36 =>
                               exact pe_str
                             case y36 =>
                               exact pa_nil
                       case y33 =>
                         exact pa_nil
             case e28 =>
               exact pss_nil
           case r27 =>
             refine' pss_cons ?s37 ?r37
             case s37 =>
               refine' ps_if ?c38 ?b38 ?e38
               case c38 => exact (PW.pt (pw_and (pt_cmpR op_eq (pv 2) pe_str (nomark _)) (pw_and1 (pt_val (peK_fld K rfl (pv 0) rfl)))))
               case b38 =>
                 refine' pss_one ?s39
                 case s39 =>
                   refine' ps_ret ?v40
                   case v40 =>
                     refine' pe_tup ?a41
                     case a41 =>
                       refine' pa_cons ?x42 ?y42 ?z42
                       case z42 => exact rfl
                       case x42 =>
                         exact pe_str
                       case y42 =>
                         refine' pa_cons ?x43 ?y43 ?z43
                         case z43 => exact rfl
                         case x43 =>
                           exact (pv 1)
                         case y43 =>
                           exact pa_nil
               case e38 =>
                 exact pss_nil
             case r37 =>
               refine' pss_one ?s44
               case s44 =>
                 refine' ps_ret ?v45
                 case v45 =>
                   refine' pe_tup ?a46
                   case a46 =>
                     refine' pa_cons ?x47 ?y47 ?z47
                     case z47 => exact rfl
                     case x47 =>
                       exact pe_str
                     case y47 =>
                       refine' pa_cons ?x48 ?y48 ?z48
                       case z48 => exact rfl
                       case x48 =>
                         refine' pe_tup ?a49
                         case a49 =>
                           refine' pa_cons ?x50 ?y50 ?z50
                           case z50 => exact rfl
                           case x50 =>
                             exact pe_str
                           case y50 =>
                             refine' pa_cons ?x51 ?y51 ?z51
                             case z51 => exact rfl
                             case x51 =>
                               exact pe_str
                             case y51 =>
                               exact pa_nil
                       case y48 =>
                         exact pa_nil
   have e2 : isS (sg c) z_LINE = isS (sg c) (Str.ofString "\n") := by rw [T.zl_LINE]
   refine ⟨_, rfl, _, rfl, x, C_Dialect, dx, _, _, rfl, hx, T.cl_Dialect, T.n_Dialect_frees, rfl, _, _, rfl, rfl, _, rfl, ite2 (fun (h1 : inS c f = true) => ?_) (fun (h1 : ¬ inS c f = true) => ?_)⟩
   · exact mk_go (by unfold mBegin; rw [if_pos h1]) kf_skip k
   refine ⟨_, rfl, rfl, _, rfl, ite2 (fun (h2 : isS (sg c) z_LINE = true) => ?_) (fun (h2 : ¬ isS (sg c) z_LINE = true) => ?_)⟩
   · rw [e2] at h2
     exact mk_goR (by unfold mBegin; rw [if_neg h1, if_pos h2]) kf_end (Same.refl _) (.inr T.tu_START) k
   rw [e2] at h2
   refine ⟨_, rfl, _, rfl, x, C_Dialect, dx, _, _, rfl, hx, T.cl_Dialect, T.n_Dialect_quotes, rfl, _, _, rfl, rfl, _, rfl, ite2 (fun (h3 : inS c q = true) => ?_) (fun (h3 : ¬ inS c q = true) => ?_)⟩
   · exact ⟨_, rfl, mk_go (by unfold mBegin; rw [if_neg h1, if_neg h2, if_pos h3]) kf_skip k⟩
   refine ⟨_, rfl, _, rfl, x, C_Dialect, dx, _, _, rfl, hx, T.cl_Dialect, T.n_Dialect_parts, rfl, _, _, rfl, rfl, _, rfl, ite2 (fun (h4 : inS c p = true) => ?_) (fun (h4 : ¬ inS c p = true) => ?_)⟩
   · exact mk_go (by unfold mBegin; rw [if_neg h1, if_neg h2, if_neg h3, if_pos h4]) kf_part k
   refine ⟨_, rfl, rfl, _, rfl, ite2 (fun (h5 : isS (sg c) (Str.ofString " ") = true) => ?_) (fun (h5 : ¬ isS (sg c) (Str.ofString " ") = true) => ?_)⟩
   · refine ⟨_, rfl, x, C_Dialect, dx, _, _, rfl, hx, T.cl_Dialect, T.n_Dialect_thin, rfl, _, rfl, ite2 (fun (h6 : b3 = true) => ?_) (fun (h6 : ¬ b3 = true) => ?_)⟩
     · exact ⟨_, rfl, mk_goR (by unfold mBegin; rw [if_neg h1, if_neg h2, if_neg h3, if_neg h4, if_pos h5, if_pos h6]) kf_skip (Same.refl _) hs k⟩
     exact mk_go (by unfold mBegin; rw [if_neg h1, if_neg h2, if_neg h3, if_neg h4, if_pos h5, if_neg h6]) kf_put k
   refine iteF ?_
   exact mk_go (by unfold mBegin; rw [if_neg h1, if_neg h2, if_neg h3, if_neg h4, if_neg h5]) kf_put k
def sp_step_in_plain (K : PySem.W.Frag) (C : Addr) : Sp := fun vs H Q _ => ∃ (x dx : Addr) (p q f : Str) (b1 b2 b3 b4 : Bool) (c : Nat), vs = [.ref x, .str (sg c)] ∧ H x = some (.ins C dx (dfl p q f b1 b2 b3 b4)) ∧ ∀ v H', Same H H' → RelR K H' v (mPlain p q f b4 c) → Q v H'
theorem ok_step_in_plain : FnOk P w K mg base CX0 1 f_step_in_plain fd_step_in_plain ["dialect", "sign"] (sp_step_in_plain K C_Dialect) := by
 refine T.F_step_in_plain.ok sc_step_in_plain (fun vs H Q E h => ?_) (fun cdv A outer s H vs Q E hr h => ?_)
 · obtain ⟨x, dx, p, q, f, b1, b2, b3, b4, c, rfl, _⟩ := h; rfl
 · have hu := hu_of hr
   have hu0 := hr.units0
   obtain ⟨x, dx, p, q, f, b1, b2, b3, b4, c, rfl, hx, k⟩ := h
   refine' ⟨_, ?aa, ?bb⟩
   case aa =>
     refine' pss_cons ?s0 ?r0
     case s0 =>
       refine' ps_if ?c1 ?b1 ?e1
       case c1 => exact (pt_cmpR op_in_str (pv 1) (peK_fld K rfl (pv 0) rfl) rfl)
       case b1 =>
         refine' pss_one ?s2
         case s2 =>
           refine' ps_ret ?v3
           case v3 =>
             refine' pe_tup ?a4
             case a4 =>
               refine' pa_cons ?x5 ?y5 ?z5
               case z5 => exact rfl
               case x5 =>
                 exact pe_str
               case y5 =>
                 refine' pa_cons ?x6 ?y6 ?z6
                 case z6 => exact rfl
                 case x6 =>
                   refine' pe_tup ?a7
                   case a7 =>
                     refine' pa_cons ?x8 ?y8 ?z8
                     case z8 => exact rfl
                     case x8 =>
                       exact pe_str
                     case y8 =>
                       refine' pa_cons ?x9 ?y9 ?z9
                       case z9 => exact rfl
                       case x9 =>
                         exact pe_str
                       case y9 =>
                         exact pa_nil
                 case y6 =>
                   exact pa_nil
       case e1 =>
         exact pss_nil
     case r0 =>
       refine' pss_cons ?s10 ?r10
       case s10 =>
         refine' ps_if ?c11 ?b11 ?e11
         case c11 => exact (pt_cmpR op_eq (pv 1) (pe_gstr rfl T.gl_LINE.choose_spec) (nomark _))
         case b11 =>
           refine' pss_one ?s12
           case s12 =>
             refine' ps_ret ?v13
             case v13 =>
               refine' pe_tup ?a14
               case a14 =>
                 refine' pa_cons ?x15 ?y15 ?z15
                 case z15 => exact rfl
                 case x15 =>
                   exact pe_str
                 case y15 =>
                   refine' pa_cons ?x16 ?y16 ?z16
                   case z16 => exact rfl
                   case x16 =>
                     exact (pe_gref rfl T.gl_START)
                   case y16 =>
                     exact pa_nil
         case e11 =>
           exact pss_nil
       case r10 =>
         refine' pss_cons ?s17 ?r17
         case s17 =>
           refine' ps_if ?c18 ?b18 ?e18
           case c18 => exact (pt_cmpR op_in_str (pv 1) (peK_fld K rfl (pv 0) rfl) rfl)
           case b18 =>
             refine' pss_one ?s19
             case s19 =>
               refine' ps_ret ?v20
               case v20 =>
                 refine' pe_tup ?a21
                 case a21 =>
                   refine' pa_cons ?x22 ?y22 ?z22
                   case z22 => exact rfl
                   case x22 =>
                     exact pe_str
                   case y22 =>
                     refine' pa_cons ?x23 ?y23 ?z23
                     case z23 => exact rfl
                     case x23 =>
                       refine' pe_tup ?a24
                       case a24 =>
                         refine' pa_cons ?x25 ?y25 ?z25
                         case z25 => exact rfl
                         case x25 =>
                           exact pe_str
                         case y25 =>
                           refine' pa_cons ?x26 ?y26 ?z26
                           case z26 => exact rfl
                           case x26 =>
                             exact pe_str
                           case y26 =>
                             exact pa_nil
                     case y23 =>
                       exact pa_nil
           case e18 =>
             exact pss_nil
         case r17 =>
           refine' pss_cons ?s27 ?r27
           case s27 =>
             refine' ps_if ?c28 ?b28 ?e28
             case c28 => exact (PW.pt (pw_and (pt_cmpR op_in_str (pv 1) (peK_fld K rfl (pv 0) rfl) rfl) (pw_and1 (pt_not (pt_val (peK_fld K rfl (pv 0) rfl))))))
             case b28 =>
               refine' pss_one ?s29
               case s29 =>
                 refine' ps_ret ?v30
                 case v30 =>
                   refine' pe_tup ?a31
                   case a31 =>
                     refine' pa_cons ?x32 ?y32 ?z32
                     case z32 => exact rfl
                     case x32 =>
                       exact pe_str
                     case y32 =>
                       refine' pa_cons ?x33 ?y33 ?z33
                       case z33 => exact rfl
                       case x33 =>
                         exact pe_str
                       case y33 =>
                         exact pa_nil
             case e28 =>
               exact pss_nil
           case r27 =>
             refine' pss_one ?s34
             case s34 =>
               refine' ps_ret ?v35
               case v35 =>
                 refine' pe_tup ?a36
                 case a36 =>
                   refine' pa_cons ?x37 ?y37 ?z37
                   case z37 => exact rfl
                   case x37 =>
                     exact pe_str
                   case y37 =>
                     refine' pa_cons ?x38 ?y38 ?z38
                     case z38 => exact rfl
                     case x38 =>
                       refine' pe_tup ?a39
                       case a39 =>
                         refine' pa_cons ?x40 ?y40 ?z40
                         case z40 => exact rfl
                         case x40 =>
                           exact pe_str
                         case y40 =>
                           refine' pa_cons ?x41 ?y41 ?z41
                           case z41 => exact rfl
                           case x41 =>
                             exact pe_str
                           case y41 =>
                             exact pa_nil
                     case y38 =>
                       exact pa_nil
   have e2 : isS (sg c) z_LINE = isS (sg c) (Str.ofString "\n") := by rw [T.zl_LINE]
   refine ⟨_, rfl, _, rfl, x, C_Dialect, dx, _, _, rfl, hx, T.cl_Dialect, T.n_Dialect_frees, rfl, _, _, rfl, rfl, _, rfl, ite2 (fun (h1 : inS c f = true) => ?_) (fun (h1 : ¬ inS c f = true) => ?_)⟩
   · exact mk_go (by unfold mPlain; rw [if_pos h1]) kf_skip k
   refine ⟨_, rfl, rfl, _, rfl, ite2 (fun (h2 : isS (sg c) z_LINE = true) => ?_) (fun (h2 : ¬ isS (sg c) z_LINE = true) => ?_)⟩
   · rw [e2] at h2
     exact mk_goR (by unfold mPlain; rw [if_neg h1, if_pos h2]) kf_end (Same.refl _) (.inr T.tu_START) k
   rw [e2] at h2
   refine ⟨_, rfl, _, rfl, x, C_Dialect, dx, _, _, rfl, hx, T.cl_Dialect, T.n_Dialect_parts, rfl, _, _, rfl, rfl, _, rfl, ite2 (fun (h3 : inS c p = true) => ?_) (fun (h3 : ¬ inS c p = true) => ?_)⟩
   · exact mk_go (by unfold mPlain; rw [if_neg h1, if_neg h2, if_pos h3]) kf_part k
   refine ⟨_, rfl, _, rfl, x, C_Dialect, dx, _, _, rfl, hx, T.cl_Dialect, T.n_Dialect_quotes, rfl, _, _, rfl, rfl, _, rfl, ite2 (fun (h4 : inS c q = true) => ?_) (fun (h4 : ¬ inS c q = true) => ?_)⟩
   · refine ⟨_, rfl, x, C_Dialect, dx, _, _, rfl, hx, T.cl_Dialect, T.n_Dialect_stray, rfl, _, rfl, ite2 (fun (h5 : (!b4) = true) => ?_) (fun (h5 : ¬ (!b4) = true) => ?_)⟩
     · exact mk_flt (by unfold mPlain; rw [if_neg h1, if_neg h2, if_neg h3, if_pos h4, if_pos h5]) k
     exact mk_go (by unfold mPlain; rw [if_neg h1, if_neg h2, if_neg h3, if_pos h4, if_neg h5]) kf_put k
   refine iteF ?_
   exact mk_go (by unfold mPlain; rw [if_neg h1, if_neg h2, if_neg h3, if_neg h4]) kf_put k
def sp_step_within (K : PySem.W.Frag) (C : Addr) : Sp := fun vs H Q _ => ∃ (x dx : Addr) (p q f : Str) (b1 b2 b3 b4 : Bool) (u : Str) (c : Nat), vs = [.ref x, .str u, .str (sg c)] ∧ H x = some (.ins C dx (dfl p q f b1 b2 b3 b4)) ∧ ∀ v H', Same H H' → RelR K H' v (mWithin f b1 b2 u c) → Q v H'
theorem ok_step_within : FnOk P w K mg base CX0 1 f_step_within fd_step_within ["dialect", "quote", "sign"] (sp_step_within K C_Dialect) := by
 refine T.F_step_within.ok sc_step_within (fun vs H Q E h => ?_) (fun cdv A outer s H vs Q E hr h => ?_)
 · obtain ⟨x, dx, p, q, f, b1, b2, b3, b4, u, c, rfl, _⟩ := h; rfl
 · have hu := hu_of hr
   have hu0 := hr.units0
   obtain ⟨x, dx, p, q, f, b1, b2, b3, b4, u, c, rfl, hx, k⟩ := h
   refine' ⟨_, ?aa, ?bb⟩
   case aa =>
     refine' pss_cons ?s0 ?r0
     case s0 =>
       refine' ps_if ?c1 ?b1 ?e1
       case c1 => exact (pt_cmpR op_in_str (pv 2) (peK_fld K rfl (pv 0) rfl) rfl)
       case b1 =>
         refine' pss_one ?s2
         case s2 =>
           refine' ps_ret ?v3
           case v3 =>
             refine' pe_tup ?a4
             case a4 =>
               refine' pa_cons ?x5 ?y5 ?z5
               case z5 => exact rfl
               case x5 =>
                 exact pe_str
               case y5 =>
                 refine' pa_cons ?x6 ?y6 ?z6
                 case z6 => exact rfl
                 case x6 =>
                   refine' pe_tup ?a7
                   case a7 =>
                     refine' pa_cons ?x8 ?y8 ?z8
                     case z8 => exact rfl
                     case x8 =>
                       exact pe_str
                     case y8 =>
                       refine' pa_cons ?x9 ?y9 ?z9
                       case z9 => exact rfl
                       case x9 =>
                         exact (pv 1)
                       case y9 =>
                         exact pa_nil
                 case y6 =>
                   exact pa_nil
       case e1 =>
         exact pss_nil
     case r0 =>
       refine' pss_cons ?s10 ?r10
       case s10 =>
         refine' ps_if ?c11 ?b11 ?e11
         case c11 => exact (pt_cmpR op_eq (pv 2) (pv 1) (nomark _))
         case b11 =>
           refine' pss_one ?s12
           case s12 =>
             refine' ps_ret ?v13
             case v13 =>
               refine' pe_tup ?a14
               case a14 =>
                 refine' pa_cons ?x15 ?y15 ?z15
                 case z15 => exact rfl
                 case x15 =>
                   exact pe_str
                 case y15 =>
                   refine' pa_cons ?x16 ?y16 ?z16
                   case z16 => exact rfl
                   case x16 =>
                     exact (pe_ifExp (pt_val (peK_fld K rfl (pv 0) rfl)) (pe_tup (pa_cons pe_str (pa_cons (pv 1) pa_nil))) (pe_tup (pa_cons pe_str (pa_cons pe_str pa_nil))))
                   case y16 =>
                     exact pa_nil
         case e11 =>
           exact pss_nil
       case r10 =>
         refine' pss_cons ?s17 ?r17
         case s17 =>
           refine' ps_if ?c18 ?b18 ?e18
           case c18 => exact (PW.pt (pw_and (pt_cmpR op_eq (pv 2) (pe_gstr rfl T.gl_LINE.choose_spec) (nomark _)) (pw_and1 (pt_not (pt_val (peK_fld K rfl (pv 0) rfl))))))
           case b18 =>
             refine' pss_one ?s19
             case s19 =>
               refine' ps_ret ?v20
               case v20 =>
                 refine' pe_tup ?a21
                 case a21 =>
                   refine' pa_cons ?x22 ?y22 ?z22
                   case z22 => exact rfl
                   case x22 =>
                     exact pe_str
                   case y22 =>
                     refine' pa_cons ?x23 ?y23 ?z23
                     case z23 => exact rfl
                     case x23 =>
                       exact pe_str
                     case y23 =>
                       exact pa_nil
           case e18 =>
             exact pss_nil
         case r17 =>
           refine' pss_one ?s24
           case s24 =>
             refine' ps_ret ?v25
             case v25 =>
               refine' pe_tup ?a26
               case a26 =>
                 refine' pa_cons ?x27 ?y27 ?z27
                 case z27 => exact rfl
                 case x27 =>
                   exact pe_str
                 case y27 =>
                   refine' pa_cons ?x28 ?y28 ?z28
                   case z28 => exact rfl
                   case x28 =>
                     refine' pe_tup ?a29
                     case a29 =>
                       refine' pa_cons ?x30 ?y30 ?z30
                       case z30 => exact rfl
                       case x30 =>
                         exact pe_str
                       case y30 =>
                         refine' pa_cons ?x31 ?y31 ?z31
                         case z31 => exact rfl
                         case x31 =>
                           exact (pv 1)
                         case y31 =>
                           exact pa_nil
                   case y28 =>
                     exact pa_nil
   have e2 : isS (sg c) z_LINE = isS (sg c) (Str.ofString "\n") := by rw [T.zl_LINE]
   refine ⟨_, rfl, _, rfl, x, C_Dialect, dx, _, _, rfl, hx, T.cl_Dialect, T.n_Dialect_frees, rfl, _, _, rfl, rfl, _, rfl, ite2 (fun (h1 : inS c f = true) => ?_) (fun (h1 : ¬ inS c f = true) => ?_)⟩
   · exact ⟨_, rfl, mk_go (by unfold mWithin; rw [if_pos h1]) kf_skip k⟩
   refine ⟨_, rfl, _, rfl, rfl, _, rfl, ite2 (fun (h2 : isS (sg c) u = true) => ?_) (fun (h2 : ¬ isS (sg c) u = true) => ?_)⟩
   · refine ⟨_, rfl, x, C_Dialect, dx, _, _, rfl, hx, T.cl_Dialect, T.n_Dialect_twin, rfl, _, rfl, ite2 (fun (h3 : b1 = true) => ?_) (fun (h3 : ¬ b1 = true) => ?_)⟩
     · exact ⟨_, rfl, mk_go (by unfold mWithin; rw [if_neg h1, if_pos h2, if_pos h3]) kf_skip k⟩
     exact mk_go (by unfold mWithin; rw [if_neg h1, if_pos h2, if_neg h3]) kf_skip k
   refine ⟨_, rfl, rfl, _, rfl, ite2 (fun (h3 : isS (sg c) z_LINE = true) => ?_) (fun (h3 : ¬ isS (sg c) z_LINE = true) => ?_)⟩
   · rw [e2] at h3
     refine ⟨_, rfl, x, C_Dialect, dx, _, _, rfl, hx, T.cl_Dialect, T.n_Dialect_wide, rfl, _, rfl, ite2 (fun (h4 : (!b2) = true) => ?_) (fun (h4 : ¬ (!b2) = true) => ?_)⟩
     · exact mk_flt (by unfold mWithin; rw [if_neg h1, if_neg h2, if_pos h3, if_pos h4]) k
     exact ⟨_, rfl, mk_go (by unfold mWithin; rw [if_neg h1, if_neg h2, if_pos h3, if_neg h4]) kf_put k⟩
   rw [e2] at h3
   refine iteF ?_
   exact ⟨_, rfl, mk_go (by unfold mWithin; rw [if_neg h1, if_neg h2, if_neg h3]) kf_put k⟩
def sp_step_behind (K : PySem.W.Frag) (C : Addr) : Sp := fun vs H Q _ => ∃ (x dx : Addr) (p q f : Str) (b1 b2 b3 b4 : Bool) (c : Nat), vs = [.ref x, .str (sg c)] ∧ H x = some (.ins C dx (dfl p q f b1 b2 b3 b4)) ∧ ∀ v H', Same H H' → RelR K H' v (mBehind p b3 c) → Q v H'
theorem ok_step_behind : FnOk P w K mg base CX0 1 f_step_behind fd_step_behind ["dialect", "sign"] (sp_step_behind K C_Dialect) := by
 refine T.F_step_behind.ok sc_step_behind (fun vs H Q E h => ?_) (fun cdv A outer s H vs Q E hr h => ?_)
 · obtain ⟨x, dx, p, q, f, b1, b2, b3, b4, c, rfl, _⟩ := h; rfl
 · have hu := hu_of hr
   have hu0 := hr.units0
   obtain ⟨x, dx, p, q, f, b1, b2, b3, b4, c, rfl, hx, k⟩ := h
   refine' ⟨_, ?aa, ?bb⟩
   case aa =>
     refine' pss_cons ?s0 ?r0
     case s0 =>
       refine' ps_if ?c1 ?b1 ?e1
       case c1 => exact (pt_cmpR op_eq (pv 1) (pe_gstr rfl T.gl_LINE.choose_spec) (nomark _))
       case b1 =>
         refine' pss_one ?s2
         case s2 =>
           refine' ps_ret ?v3
           case v3 =>
             refine' pe_tup ?a4
             case a4 =>
               refine' pa_cons ?x5 ?y5 ?z5
               case z5 => exact rfl
               case x5 =>
                 exact pe_str
               case y5 =>
                 refine' pa_cons ?x6 ?y6 ?z6
                 case z6 => exact rfl
                 case x6 =>
                   exact (pe_gref rfl T.gl_START)
                 case y6 =>
                   exact pa_nil
       case e1 =>
         exact pss_nil
     case r0 =>
       refine' pss_cons ?s7 ?r7
       case s7 =>
         refine' ps_if ?c8 ?b8 ?e8
         case c8 => exact (pt_cmpR op_in_str (pv 1) (peK_fld K rfl (pv 0) rfl) rfl)
         case b8 =>
           refine' pss_one ?s9
           case s9 =>
             refine' ps_ret ?v10
             case v10 =>
               refine' pe_tup ?a11
               case a11 =>
                 refine' pa_cons ?x12 ?y12 ?z12
                 case z12 => exact rfl
                 case x12 =>
                   exact pe_str
                 case y12 =>
                   refine' pa_cons ?x13 ?y13 ?z13
                   case z13 => exact rfl
                   case x13 =>
                     refine' pe_tup ?a14
                     case a14 =>
                       refine' pa_cons ?x15 ?y15 ?z15
                       case z15 => exact rfl
                       case x15 =>
                         exact pe_str
                       case y15 =>
                         refine' pa_cons ?x16 ?y16 ?z16
                         case z16 => exact rfl
                         case x16 =>
                           exact pe_str
                         case y16 =>
                           exact pa_nil
                   case y13 =>
                     exact pa_nil
         case e8 =>
           exact pss_nil
       case r7 =>
         refine' pss_cons ?s17 ?r17
         case s17 =>
           refine' ps_if ?c18 ?b18 ?e18
           case c18 => exact (PW.pt (pw_and (pt_cmpR op_eq (pv 1) pe_str (nomark _)) (pw_and1 (pt_val (peK_fld K rfl (pv 0) rfl)))))
           case b18 =>
             refine' pss_one ?s19
             case s19 =>
               refine' ps_ret ?v20
               case v20 =>
                 refine' pe_tup ?a21
                 case a21 =>
                   refine' pa_cons ?x22 ?y22 ?z22
                   case z22 => exact rfl
                   case x22 =>
                     exact pe_str
                   case y22 =>
                     refine' pa_cons ?x23 ?y23 ?z23
                     case z23 => exact rfl
                     case x23 =>
                       refine' pe_tup ?a24
                       case a24 =>
                         refine' pa_cons ?x25 ?y25 ?z25
                         case z25 => exact rfl
                         case x25 =>
                           exact pe_str
                         case y25 =>
                           refine' pa_cons ?x26 ?y26 ?z26
                           case z26 => exact rfl
                           case x26 =>
                             exact pe_str
                           case y26 =>
                             exact pa_nil
                     case y23 =>
                       exact pa_nil
           case e18 =>
             exact pss_nil
         case r17 =>
           refine' pss_one ?s27
           case s27 =>
             refine' ps_ret ?v28
             case v28 =>
               refine' pe_tup ?a29
               case a29 =>
                 refine' pa_cons ?x30 ?y30 ?z30
                 case z30 => exact rfl
                 case x30 =>
                   exact pe_str
                 case y30 =>
                   refine' pa_cons ?x31 ?y31 ?z31
                   case z31 => exact rfl
                   case x31 =>
                     exact pe_str
                   case y31 =>
                     exact pa_nil
   have e2 : isS (sg c) z_LINE = isS (sg c) (Str.ofString "\n") := by rw [T.zl_LINE]
   refine ⟨_, rfl, rfl, _, rfl, ite2 (fun (h1 : isS (sg c) z_LINE = true) => ?_) (fun (h1 : ¬ isS (sg c) z_LINE = true) => ?_)⟩
   · rw [e2] at h1
     exact mk_goR (by unfold mBehind; rw [if_pos h1]) kf_end (Same.refl _) (.inr T.tu_START) k
   rw [e2] at h1
   refine ⟨_, rfl, _, rfl, x, C_Dialect, dx, _, _, rfl, hx, T.cl_Dialect, T.n_Dialect_parts, rfl, _, _, rfl, rfl, _, rfl, ite2 (fun (h2 : inS c p = true) => ?_) (fun (h2 : ¬ inS c p = true) => ?_)⟩
   · exact mk_go (by unfold mBehind; rw [if_neg h1, if_pos h2]) kf_part k
   refine ⟨_, rfl, rfl, _, rfl, ite2 (fun (h3 : isS (sg c) (Str.ofString " ") = true) => ?_) (fun (h3 : ¬ isS (sg c) (Str.ofString " ") = true) => ?_)⟩
   · refine ⟨_, rfl, x, C_Dialect, dx, _, _, rfl, hx, T.cl_Dialect, T.n_Dialect_thin, rfl, _, rfl, ite2 (fun (h4 : b3 = true) => ?_) (fun (h4 : ¬ b3 = true) => ?_)⟩
     · exact mk_go (by unfold mBehind; rw [if_neg h1, if_neg h2, if_pos h3, if_pos h4]) kf_skip k
     exact mk_flt (by unfold mBehind; rw [if_neg h1, if_neg h2, if_pos h3, if_neg h4]) k
   refine iteF ?_
   exact mk_flt (by unfold mBehind; rw [if_neg h1, if_neg h2, if_neg h3]) k
def sp_step_in_doubt (K : PySem.W.Frag) (C : Addr) : Sp := fun vs H Q _ => ∃ (x dx : Addr) (p q f : Str) (b1 b2 b3 b4 : Bool) (u : Str) (c : Nat), vs = [.ref x, .str u, .str (sg c)] ∧ H x = some (.ins C dx (dfl p q f b1 b2 b3 b4)) ∧ ∀ v H', Same H H' → RelR K H' v (mDoubt p b3 u c) → Q v H'
theorem ok_step_in_doubt : FnOk P w K mg base CX0 2 f_step_in_doubt fd_step_in_doubt ["dialect", "quote", "sign"] (sp_step_in_doubt K C_Dialect) := by
 have G_step_behind : FnOk P w K mg base CX0 1 f_step_behind fd_step_behind ["dialect", "sign"] (sp_step_behind K C_Dialect) := ok_step_behind T
 refine T.F_step_in_doubt.ok sc_step_in_doubt (fun vs H Q E h => ?_) (fun cdv A outer s H vs Q E hr h => ?_)
 · obtain ⟨x, dx, p, q, f, b1, b2, b3, b4, u, c, rfl, _⟩ := h; rfl
 · have hu := hu_of hr
   have hu0 := hr.units0
   obtain ⟨x, dx, p, q, f, b1, b2, b3, b4, u, c, rfl, hx, k⟩ := h
   refine ⟨_, (pss_cons (ps_if (pt_cmpR op_eq (pv 2) (pv 1) (nomark _)) (pss_one (ps_ret (pe_tup (pa_cons pe_str (pa_cons (pe_tup (pa_cons pe_str (pa_cons (pv 1) pa_nil))) pa_nil))))) pss_nil)
     (pss_one (ps_ret (pe_call (k := 1) G_step_behind (hr.mono (by decide)) rfl T.g_step_behind T.F_step_behind.kp T.b_step_behind .nil pass0 (pa_cons (pv 0) (pa_cons (pv 2) pa_nil)))))), ?_⟩
   refine ⟨_, rfl, _, rfl, rfl, _, rfl, ite2 (fun (h1 : isS (sg c) u = true) => ?_) (fun (h1 : ¬ isS (sg c) u = true) => ?_)⟩
   · exact ⟨_, rfl, mk_go (by unfold mDoubt; rw [if_pos h1]) kf_put k⟩
   refine ⟨_, rfl, _, rfl, x, dx, p, q, f, b1, b2, b3, b4, c, rfl, hx, fun v H2 s2 r => k v H2 s2 ?_⟩
   unfold mDoubt
   rw [if_neg h1]
   exact r
def sp_step_freed (K : PySem.W.Frag) (C : Addr) : Sp := fun vs H Q _ => ∃ (x dx : Addr) (p q f : Str) (b1 b2 b3 b4 : Bool) (u : Str) (c : Nat), vs = [.ref x, .str u, .str (sg c)] ∧ H x = some (.ins C dx (dfl p q f b1 b2 b3 b4)) ∧ ∀ v H', Same H H' → RelR K H' v (mFreed b2 u c) → Q v H'
theorem ok_step_freed : FnOk P w K mg base CX0 1 f_step_freed fd_step_freed ["dialect", "quote", "sign"] (sp_step_freed K C_Dialect) := by
 refine T.F_step_freed.ok sc_step_freed (fun vs H Q E h => ?_) (fun cdv A outer s H vs Q E hr h => ?_)
 · obtain ⟨x, dx, p, q, f, b1, b2, b3, b4, u, c, rfl, _⟩ := h; rfl
 · have hu := hu_of hr
   have hu0 := hr.units0
   obtain ⟨x, dx, p, q, f, b1, b2, b3, b4, u, c, rfl, hx, k⟩ := h
   refine' ⟨_, ?aa, ?bb⟩
   case aa =>
     refine' pss_cons ?s0 ?r0
     case s0 =>
       refine' ps_if ?c1 ?b1 ?e1
       case c1 => exact (PW.pt (pw_and (pt_cmpR op_eq (pv 2) (pe_gstr rfl T.gl_LINE.choose_spec) (nomark _)) (pw_and1 (pt_not (pt_val (peK_fld K rfl (pv 0) rfl))))))
       case b1 =>
         refine' pss_one ?s2
         case s2 =>
           refine' ps_ret ?v3
           case v3 =>
             refine' pe_tup ?a4
             case a4 =>
               refine' pa_cons ?x5 ?y5 ?z5
               case z5 => exact rfl
               case x5 =>
                 exact pe_str
               case y5 =>
                 refine' pa_cons ?x6 ?y6 ?z6
                 case z6 => exact rfl
                 case x6 =>
                   exact pe_str
                 case y6 =>
                   exact pa_nil
       case e1 =>
         exact pss_nil
     case r0 =>
       refine' pss_one ?s7
       case s7 =>
         refine' ps_ret ?v8
         case v8 =>
           refine' pe_tup ?a9
           case a9 =>
             refine' pa_cons ?x10 ?y10 ?z10
             case z10 => exact rfl
             case x10 =>
               exact pe_str
             case y10 =>
               refine' pa_cons ?x11 ?y11 ?z11
               case z11 => exact rfl
               case x11 =>
                 exact (pe_ifExp (pt_cmpR op_eq (pv 1) pe_str (nomark _)) (pe_tup (pa_cons pe_str (pa_cons pe_str pa_nil))) (pe_tup (pa_cons pe_str (pa_cons (pv 1) pa_nil))))
               case y11 =>
                 exact pa_nil
   have e2 : isS (sg c) z_LINE = isS (sg c) (Str.ofString "\n") := by rw [T.zl_LINE]
   refine ⟨_, rfl, rfl, _, rfl, ite2 (fun (h1 : isS (sg c) z_LINE = true) => ?_) (fun (h1 : ¬ isS (sg c) z_LINE = true) => ?_)⟩
   · rw [e2] at h1
     refine ⟨_, rfl, x, C_Dialect, dx, _, _, rfl, hx, T.cl_Dialect, T.n_Dialect_wide, rfl, _, rfl, ite2 (fun (h2 : (!b2) = true) => ?_) (fun (h2 : ¬ (!b2) = true) => ?_)⟩
     · exact mk_flt (by unfold mFreed; rw [if_pos h1, if_pos h2]) k
     refine ⟨_, rfl, rfl, _, rfl, ite2 (fun (h9 : isS u (Str.ofString "") = true) => ?_) (fun (h9 : ¬ isS u (Str.ofString "") = true) => ?_)⟩
     · exact mk_go (by unfold mFreed mFreedX; rw [if_pos h1, if_neg h2, if_pos h9]) kf_put k
     exact ⟨_, rfl, mk_go (by unfold mFreed mFreedX; rw [if_pos h1, if_neg h2, if_neg h9]) kf_put k⟩
   rw [e2] at h1
   refine iteF ?_
   refine ⟨_, rfl, rfl, _, rfl, ite2 (fun (h9 : isS u (Str.ofString "") = true) => ?_) (fun (h9 : ¬ isS u (Str.ofString "") = true) => ?_)⟩
   · exact mk_go (by unfold mFreed mFreedX; rw [if_neg h1, if_pos h9]) kf_put k
   exact ⟨_, rfl, mk_go (by unfold mFreed mFreedX; rw [if_neg h1, if_neg h9]) kf_put k⟩
def sp_Turn___init__ (C CT : Addr) : Sp := fun vs H Q _ => ∃ (y dy x dx : Addr) (p q f : Str) (b1 b2 b3 b4 : Bool), vs = [.ref y, .ref x] ∧ H y = some (.ins CT dy []) ∧ H x = some (.ins C dx (dfl p q f b1 b2 b3 b4)) ∧ Gd p q f ∧ ∀ H', Tn C CT H' y p q f b1 b2 b3 b4 → (∀ b o, H b = some o → b ≠ y → H' b = some o) → Q .non H'
theorem ok_Turn___init__ : FnOk P w K mg base CX0 6 f_Turn___init__ fd_Turn___init__ ["self", "dialect"] (sp_Turn___init__ C_Dialect C_Turn) := by
 have G_Dialect_told : FnOk P w K mg base CX0 1 f_Dialect_told fd_Dialect_told ["self"] (sp_Dialect_told C_Dialect) := ok_Dialect_told T
 have G_dialect_of : FnOk P w K mg base CX0 5 f_dialect_of fd_dialect_of ["told"] (sp_dialect_of C_Dialect) := ok_dialect_of T
 refine T.F_Turn___init__.ok sc_Turn___init__ (fun vs H Q E h => ?_) (fun cdv A outer s H vs Q E hr h => ?_)
 · obtain ⟨y, dy, x, dx, p, q, f, b1, b2, b3, b4, rfl, _⟩ := h; rfl
 · have hu := hu_of hr
   have hu0 := hr.units0
   obtain ⟨y, dy, x, dx, p, q, f, b1, b2, b3, b4, rfl, hy, hx, g, k⟩ := h
   refine ⟨_, (pss_one (ps_fld (pv 0) (pe_call (k := 5) G_dialect_of (hr.mono (by decide)) rfl T.g_dialect_of T.F_dialect_of.kp T.b_dialect_of .nil pass0 (pa_cons (pe_meth0 (k := 1) (pv 1) T.cl_Dialect T.m_Dialect_told G_Dialect_told (hr.mono (by decide)) T.b_Dialect_told .nil pass0) pa_nil)) rfl)), ?_⟩
   refine ⟨_, rfl, x, dx, _, rfl, hx, rfl, x, dx, p, q, f, b1, b2, b3, b4, rfl, hx, fun t ht => ?_⟩
   have s1 := same_new (o := HO.tup (seven p q f b1 b2 b3 b4)) ht
   refine ⟨t, p, q, f, b1, b2, b3, b4, rfl, upd_same, g, fun d dd H2 hd h2 s2 => ?_⟩
   have s12 := s1.trans s2
   have nyd : d ≠ y := fun e => by subst e; rw [s1 _ _ hy] at hd; cases hd
   refine ⟨_, rfl, y, C_Turn, dy, _, rfl, s12 _ _ hy, T.cl_Turn, T.n_Turn_dialect, (by show 0 < 1000; decide), ?_⟩
   refine k _ ⟨⟨dy, d, dd, upd_same, (upd_ne nyd).trans h2⟩⟩ fun b o e hb => (upd_ne hb).trans (s12 _ _ e)
def sp_Turn_step (K : PySem.W.Frag) (C CT : Addr) : Sp := fun vs H Q _ => ∃ (y s : Addr) (w u : Str) (c : Nat) (p q f : Str) (b1 b2 b3 b4 : Bool), vs = [.ref y, .ref s, .str (sg c)] ∧ Tn C CT H y p q f b1 b2 b3 b4 ∧ SqT K H s [.str w, .str u] ∧ ∀ v H', Same H H' → RelR K H' v (stepM p q f b1 b2 b3 b4 w u c) → Q v H'
theorem ok_Turn_step : FnOk P w K mg base CX0 3 f_Turn_step fd_Turn_step ["self", "state", "sign"] (sp_Turn_step K C_Dialect C_Turn) := by
 have G_step_at_beginning : FnOk P w K mg base CX0 1 f_step_at_beginning fd_step_at_beginning ["dialect", "state", "sign"] (sp_step_at_beginning K C_Dialect) := ok_step_at_beginning T
 have G_step_behind : FnOk P w K mg base CX0 1 f_step_behind fd_step_behind ["dialect", "sign"] (sp_step_behind K C_Dialect) := ok_step_behind T
 have G_step_freed : FnOk P w K mg base CX0 1 f_step_freed fd_step_freed ["dialect", "quote", "sign"] (sp_step_freed K C_Dialect) := ok_step_freed T
 have G_step_in_doubt : FnOk P w K mg base CX0 2 f_step_in_doubt fd_step_in_doubt ["dialect", "quote", "sign"] (sp_step_in_doubt K C_Dialect) := ok_step_in_doubt T
 have G_step_in_plain : FnOk P w K mg base CX0 1 f_step_in_plain fd_step_in_plain ["dialect", "sign"] (sp_step_in_plain K C_Dialect) := ok_step_in_plain T
 have G_step_within : FnOk P w K mg base CX0 1 f_step_within fd_step_within ["dialect", "quote", "sign"] (sp_step_within K C_Dialect) := ok_step_within T
 refine T.F_Turn_step.ok sc_Turn_step (fun vs H Q E h => ?_) (fun cdv A outer s H vs Q E hr h => ?_)
 · obtain ⟨y, s, w, u, c, p, q, f, b1, b2, b3, b4, rfl, _⟩ := h; rfl
 · have hu := hu_of hr
   have hu0 := hr.units0
   obtain ⟨y, s, w, u, c, p, q, f, b1, b2, b3, b4, rfl, hT, hs, k⟩ := h
   obtain ⟨dy, d, dd, hy, hd⟩ := hT.ok
   refine ⟨_, (pss_cons (ps_set (i := 3) sc_Turn_step.nd rfl (by first | exact Or.inl rfl | exact Or.inr rfl) (pe_ix (ixK_tup K rfl) (pv 1) pe_int (fun _ _ => rfl)))
     (pss_cons (ps_set (i := 4) sc_Turn_step.nd rfl (by first | exact Or.inl rfl | exact Or.inr rfl) (pe_ix (ixK_tup K rfl) (pv 1) pe_int (fun _ _ => rfl)))
     (pss_cons (ps_if (pt_cmpR op_eq (pv 3) pe_str (nomark _)) (pss_one (ps_ret (pe_call (k := 1) G_step_in_plain (hr.mono (by decide)) rfl T.g_step_in_plain T.F_step_in_plain.kp T.b_step_in_plain .nil pass0 (pa_cons (peK_fld K rfl (pv 0) rfl) (pa_cons (pv 2) pa_nil))))) pss_nil)
     (pss_cons (ps_if (pt_cmpR op_eq (pv 3) pe_str (nomark _)) (pss_one (ps_ret (pe_call (k := 1) G_step_within (hr.mono (by decide)) rfl T.g_step_within T.F_step_within.kp T.b_step_within .nil pass0 (pa_cons (peK_fld K rfl (pv 0) rfl) (pa_cons (pv 4) (pa_cons (pv 2) pa_nil)))))) pss_nil)
     (pss_cons (ps_if (pt_cmpR op_eq (pv 3) pe_str (nomark _)) (pss_one (ps_ret (pe_call (k := 2) G_step_in_doubt (hr.mono (by decide)) rfl T.g_step_in_doubt T.F_step_in_doubt.kp T.b_step_in_doubt .nil pass0 (pa_cons (peK_fld K rfl (pv 0) rfl) (pa_cons (pv 4) (pa_cons (pv 2) pa_nil)))))) pss_nil)
     (pss_cons (ps_if (pt_cmpR op_eq (pv 3) pe_str (nomark _)) (pss_one (ps_ret (pe_call (k := 1) G_step_behind (hr.mono (by decide)) rfl T.g_step_behind T.F_step_behind.kp T.b_step_behind .nil pass0 (pa_cons (peK_fld K rfl (pv 0) rfl) (pa_cons (pv 2) pa_nil))))) pss_nil)
     (pss_cons (ps_if (pt_cmpR op_eq (pv 3) pe_str (nomark _)) (pss_one (ps_ret (pe_call (k := 1) G_step_freed (hr.mono (by decide)) rfl T.g_step_freed T.F_step_freed.kp T.b_step_freed .nil pass0 (pa_cons (peK_fld K rfl (pv 0) rfl) (pa_cons (pv 4) (pa_cons (pv 2) pa_nil)))))) pss_nil)
     (pss_one (ps_ret (pe_call (k := 1) G_step_at_beginning (hr.mono (by decide)) rfl T.g_step_at_beginning T.F_step_at_beginning.kp T.b_step_at_beginning .nil pass0 (pa_cons (peK_fld K rfl (pv 0) rfl) (pa_cons (pv 1) (pa_cons (pv 2) pa_nil))))))))))))), ?_⟩
   refine ⟨_, rfl, s, _, _, _, rfl, rfl, hs, rfl, _, rfl, s, _, _, _, rfl, rfl, hs, rfl, ?_⟩
   refine ⟨_, rfl, rfl, _, rfl, ite2 (fun (h1 : isS w (Str.ofString "plain") = true) => ?_) (fun (h1 : ¬ isS w (Str.ofString "plain") = true) => ?_)⟩
   · refine ⟨_, rfl, y, C_Turn, dy, _, _, rfl, hy, T.cl_Turn, T.n_Turn_dialect, rfl, _, rfl, d, dd, p, q, f, b1, b2, b3, b4, c, rfl, hd, fun v H2 s2 r => k v H2 s2 ?_⟩
     rw [sm_plain h1]
     exact r
   refine ⟨_, rfl, rfl, _, rfl, ite2 (fun (h2 : isS w (Str.ofString "within") = true) => ?_) (fun (h2 : ¬ isS w (Str.ofString "within") = true) => ?_)⟩
   · refine ⟨_, rfl, y, C_Turn, dy, _, _, rfl, hy, T.cl_Turn, T.n_Turn_dialect, rfl, _, rfl, _, rfl, d, dd, p, q, f, b1, b2, b3, b4, u, c, rfl, hd, fun v H2 s2 r => k v H2 s2 ?_⟩
     rw [sm_within h2]
     exact r
   refine ⟨_, rfl, rfl, _, rfl, ite2 (fun (h3 : isS w (Str.ofString "doubt") = true) => ?_) (fun (h3 : ¬ isS w (Str.ofString "doubt") = true) => ?_)⟩
   · refine ⟨_, rfl, y, C_Turn, dy, _, _, rfl, hy, T.cl_Turn, T.n_Turn_dialect, rfl, _, rfl, _, rfl, d, dd, p, q, f, b1, b2, b3, b4, u, c, rfl, hd, fun v H2 s2 r => k v H2 s2 ?_⟩
     rw [sm_doubt h3]
     exact r
   refine ⟨_, rfl, rfl, _, rfl, ite2 (fun (h4 : isS w (Str.ofString "behind") = true) => ?_) (fun (h4 : ¬ isS w (Str.ofString "behind") = true) => ?_)⟩
   · refine ⟨_, rfl, y, C_Turn, dy, _, _, rfl, hy, T.cl_Turn, T.n_Turn_dialect, rfl, _, rfl, d, dd, p, q, f, b1, b2, b3, b4, c, rfl, hd, fun v H2 s2 r => k v H2 s2 ?_⟩
     rw [sm_behind h4]
     exact r
   refine ⟨_, rfl, rfl, _, rfl, ite2 (fun (h5 : isS w (Str.ofString "freed") = true) => ?_) (fun (h5 : ¬ isS w (Str.ofString "freed") = true) => ?_)⟩
   · refine ⟨_, rfl, y, C_Turn, dy, _, _, rfl, hy, T.cl_Turn, T.n_Turn_dialect, rfl, _, rfl, _, rfl, d, dd, p, q, f, b1, b2, b3, b4, u, c, rfl, hd, fun v H2 s2 r => k v H2 s2 ?_⟩
     rw [sm_freed h5]
     exact r
   refine ⟨_, rfl, y, C_Turn, dy, _, _, rfl, hy, T.cl_Turn, T.n_Turn_dialect, rfl, _, rfl, _, rfl, d, dd, p, q, f, b1, b2, b3, b4, s, w, u, c, rfl, hd, hs, fun v H2 s2 r => k v H2 s2 ?_⟩
   rw [sm_open (no_of h2) (no_of h5) (no_of h3) (no_of h4)]
   unfold mOpen
   rw [if_neg h1]
   exact r
def sp_check_text : Sp := fun vs H Q _ => ∃ z : Str, vs = [.str z] ∧ cellOk z ∧ z.length ≤ 2000 ∧ ∀ H', Same H H' → Q .non H'
theorem ok_check_text : FnOk P w K mg base CX0 4 f_check_text fd_check_text ["thing"] sp_check_text := by
 have G_is_text : FnOk P w K mg base CX0 3 f_is_text fd_is_text ["thing"] (sp_is_text K) := ok_is_text T
 refine T.F_check_text.ok sc_check_text (fun vs H Q E h => ?_) (fun cdv A outer s H vs Q E hr h => ?_)
 · obtain ⟨z, rfl, _⟩ := h; rfl
 · have hu := hu_of hr
   have hu0 := hr.units0
   obtain ⟨z, rfl, g, hz, k⟩ := h
   refine ⟨_, (pss_one (ps_if (pt_not (pt_val (pe_call (k := 3) G_is_text (hr.mono (by decide)) rfl T.g_is_text T.F_is_text.kp T.b_is_text .nil pass0 (pa_cons (pv 0) pa_nil)))) (pss_one ps_never) pss_nil)), ?_⟩
   refine ⟨_, rfl, .str z, rfl, .str z, fun z' e => (by cases e; omega), fun H1 s1 => ?_⟩
   rw [isT_len g, decide_eq_true (show (z.length : Int) ≤ 2000 by omega)]
   exact ⟨true, rfl, iteF (k H1 s1)⟩
def sp_walk (K : PySem.W.Frag) (C : Addr) : Sp := fun vs H Q _ => ∃ (x dx : Addr) (z : Str) (p q f : Str) (b1 b2 b3 b4 : Bool), vs = [.ref x, .str z] ∧ H x = some (.ins C dx (dfl p q f b1 b2 b3 b4)) ∧ Gd p q f ∧ cellOk z ∧ z.length ≤ 2000 ∧ ∀ (tw lk s : Addr) H', H' tw = some (.tup [.ref lk, .ref s, wordV (runM p q f b1 b2 b3 b4 (Str.ofString "row") (Str.ofString "") z.cps.toList).2.2.2]) → H lk = none → H' lk = some (.lst ((runM p q f b1 b2 b3 b4 (Str.ofString "row") (Str.ofString "") z.cps.toList).1.map V.str)) → SqT K H' s [.str (runM p q f b1 b2 b3 b4 (Str.ofString "row") (Str.ofString "") z.cps.toList).2.1, .str (runM p q f b1 b2 b3 b4 (Str.ofString "row") (Str.ofString "") z.cps.toList).2.2.1] → Same H H' → Q (.ref tw) H'
theorem ok_walk : FnOk P w K mg base CX0 8 f_walk fd_walk ["dialect", "text"] (sp_walk K C_Dialect) := by
 have G_Turn___init__ : FnOk P w K mg base CX0 6 f_Turn___init__ fd_Turn___init__ ["self", "dialect"] (sp_Turn___init__ C_Dialect C_Turn) := ok_Turn___init__ T
 have G_Turn_step : FnOk P w K mg base CX0 3 f_Turn_step fd_Turn_step ["self", "state", "sign"] (sp_Turn_step K C_Dialect C_Turn) := ok_Turn_step T
 have G_check_text : FnOk P w K mg base CX0 4 f_check_text fd_check_text ["thing"] sp_check_text := ok_check_text T
 refine T.F_walk.ok sc_walk (fun vs H Q E h => ?_) (fun cdv A outer s H vs Q E hr h => ?_)
 · obtain ⟨x, dx, z, p, q, f, b1, b2, b3, b4, rfl, _⟩ := h; rfl
 · have hu := hu_of hr
   have hu0 := hr.units0
   obtain ⟨x, dx, z, p, q, f, b1, b2, b3, b4, rfl, hx, g, hz, hz2, k⟩ := h
   refine' ⟨_, ?aa, ?bb⟩
   case aa =>
     refine' pss_cons ?s0 ?r0
     case s0 =>
       exact (ps_expr (pe_call (k := 4) G_check_text (hr.mono (by decide)) rfl T.g_check_text T.F_check_text.kp T.b_check_text .nil pass0 (pa_cons (pv 1) pa_nil)))
     case r0 =>
       refine' pss_cons ?s1 ?r1
       case s1 =>
         exact (ps_set (i := 2) sc_walk.nd rfl (by first | exact Or.inl rfl | exact Or.inr rfl) (pe_make (k := 6) T.M_Turn G_Turn___init__ (hr.mono (by decide)) rfl T.g_Turn T.b_Turn___init__ .nil pass0 (pa_cons (pv 0) pa_nil)))
       case r1 =>
         refine' pss_cons ?s2 ?r2
         case s2 =>
           refine' ps_set (i := 3) sc_walk.nd rfl (by first | exact Or.inl rfl | exact Or.inr rfl) ?v3
           case v3 =>
             refine' pe_lst ?a4
             case a4 =>
               exact pa_nil
         case r2 =>
           refine' pss_cons ?s5 ?r5
           case s5 =>
             exact (ps_set (i := 4) sc_walk.nd rfl (by first | exact Or.inl rfl | exact Or.inr rfl) (pe_gref rfl T.gl_START))
           case r5 =>
             refine' pss_cons ?s6 ?r6
             case s6 =>
               exact (ps_for PassesOwn.never rfl (pi_str (pv 1)) (pg_name (i := 5) sc_walk.nd rfl (by first | exact Or.inl rfl | exact Or.inr rfl))
         (pss_cons (ps_set (i := 6) sc_walk.nd rfl (by first | exact Or.inl rfl | exact Or.inr rfl) (pe_meth (k := 3) (pv 2) T.cl_Turn T.m_Turn_step G_Turn_step (hr.mono (by decide)) T.b_Turn_step .nil pass0 (pa_cons (pv 4) (pa_cons (pv 5) pa_nil))))
         (pss_cons (ps_if (pt_cmpR op_eq (pe_ix (ixK_tup K rfl) (pv 6) pe_int (fun _ _ => rfl)) pe_str (nomark _)) (pss_one (ps_ret (pe_tup (pa_cons (pv 3) (pa_cons (pv 4) (pa_cons (pe_ix (ixK_tup K rfl) (pv 6) pe_int (fun _ _ => rfl)) pa_nil)))))) pss_nil)
         (pss_cons (ps_expr (peK_bm K rfl PySem.F.plainAttrs_list PySem.F.slot_list_append PySem.F.type_list_append mt_append (pv 3) (pa_cons (pe_ix (ixK_tup K rfl) (pv 6) pe_int (fun _ _ => rfl)) pa_nil)))
         (pss_one (ps_set (i := 4) sc_walk.nd rfl (by first | exact Or.inl rfl | exact Or.inr rfl) (pe_ix (ixK_tup K rfl) (pv 6) pe_int (fun _ _ => rfl))))))))
             case r6 =>
               refine' pss_one ?s7
               case s7 =>
                 refine' ps_ret ?v8
                 case v8 =>
                   refine' pe_tup ?a9
                   case a9 =>
                     refine' pa_cons ?x10 ?y10 ?z10
                     case z10 => exact rfl
                     case x10 =>
                       exact (pv 3)
                     case y10 =>
                       refine' pa_cons ?x11 ?y11 ?z11
                       case z11 => exact rfl
                       case x11 =>
                         exact (pv 4)
                       case y11 =>
                         refine' pa_cons ?x12 ?y12 ?z12
                         case z12 => exact rfl
                         case x12 =>
                           exact pe_non
                         case y12 =>
                           exact pa_nil
   refine ⟨_, rfl, z, rfl, hz, hz2, fun H1 s1 => ?_⟩
   refine ⟨_, rfl, fun y dy hy hdy ne => ⟨y, dy, x, dx, p, q, f, b1, b2, b3, b4, rfl, upd_same, made_old hy hdy (s1 _ _ hx), g, fun H2 hT kp => ⟨rfl, ?_⟩⟩⟩
   have s2 := s1.trans (same_make hy hdy kp)
   refine ⟨by decide, fun lk hlk => ?_⟩
   have s3 := same_new (o := HO.lst []) hlk
   have hl0 : H lk = none := s2.free hlk
   refine ⟨_, rfl, z, rfl, ?_⟩
   refine for_str (fun i σ H4 => Same H H4 ∧ ∃ (w u : Str) (s : Addr) (ks : List Str) (v1 v2 : Option V), σ = [some (.ref x), some (.str z), some (.ref y), some (.ref lk), some (.ref s), v1, v2] ∧ Tn C_Dialect C_Turn H4 y p q f b1 b2 b3 b4 ∧ H4 lk = some (.lst (ks.map V.str)) ∧ SqT K H4 s [.str w, .str u] ∧ ks.length = i ∧ runM p q f b1 b2 b3 b4 (Str.ofString "row") (Str.ofString "") z.cps.toList = appR ks (runM p q f b1 b2 b3 b4 w u (z.cps.toList.drop i))) ⟨s2.trans s3, _, _, a_START, [], _, _, rfl, hT.mono s3, upd_same, .inr T.tu_START, rfl, rfl⟩ ?_ ?_
   · rintro i c σ H4 hi ⟨s4, w, u, s, ks, v1, v2, rfl, hT4, h4, hs, hkl, er⟩
     rw [drop_cons hi] at er
     have hil := (List.getElem?_eq_some_iff.mp hi).1
     rw [Array.length_toList] at hil
     have hil : i < z.length := hil
     obtain ⟨dy4, d4, dd4, ey4, ed4⟩ := hT4.ok
     refine ⟨_, rfl, y, dy4, _, rfl, ey4, rfl, _, rfl, _, rfl, y, s, w, u, c, p, q, f, b1, b2, b3, b4, rfl, hT4, hs, fun v H5 s5 r => ?_⟩
     have h5 := s5 _ _ h4
     cases hr5 : stepM p q f b1 b2 b3 b4 w u c with
     | go kd w3 u3 =>
       rw [hr5] at r
       obtain ⟨hk, a, b, rfl, ha, hb⟩ := r
       refine ⟨_, rfl, a, _, _, _, rfl, rfl, ha, rfl, rfl, _, rfl, iteBf hk ?_⟩
       refine ⟨_, rfl, .inl ⟨rfl, _, SqL.of h5⟩, _, rfl, a, _, _, _, rfl, rfl, ha, rfl, lk, _, _, rfl, rfl, h5, ?_, ?_⟩
       · rw [List.length_map]; exact Nat.lt_of_le_of_lt (show ks.length ≤ 2000 by omega) (by decide)
       refine ⟨_, rfl, a, _, _, _, rfl, rfl, sqt_but h5 ha, rfl, same_set hl0 (s4.trans s5), w3, u3, b, ks ++ [kd], _, _, rfl, Tn.but h5 (hT4.mono s5), ?_, sqt_but h5 hb, by rw [List.length_append, hkl]; rfl, er.trans (run_go hr5)⟩
       rw [List.map_append]; exact upd_same
     | flt e =>
       rw [hr5] at r
       obtain ⟨a, rfl, ha⟩ := r
       refine ⟨_, rfl, a, _, _, _, rfl, rfl, ha, rfl, rfl, _, rfl, iteBt (isS_self _) ?_⟩
       refine ⟨_, rfl, _, rfl, _, rfl, a, _, _, _, rfl, rfl, ha, rfl, (by show 3 ≤ sizeLine; decide), fun t ht => ?_⟩
       have st := same_new (o := HO.tup [.ref lk, .ref s, .str e]) ht
       rw [run_flt hr5] at er
       refine k t lk s _ ?_ hl0 ?_ ?_ ((s4.trans s5).trans st)
       · rw [er]; exact upd_same
       · rw [er]; exact st _ _ h5
       · rw [er]; exact sqt_mono (s5.trans st) hs
   · rintro σ H4 ⟨s4, w, u, s, ks, v1, v2, rfl, hT4, h4, hs, hkl, er⟩
     rw [List.drop_length, run_end] at er
     refine ⟨_, rfl, _, rfl, (by show 3 ≤ sizeLine; decide), fun t ht => ?_⟩
     have st := same_new (o := HO.tup [.ref lk, .ref s, .non]) ht
     refine k t lk s _ ?_ hl0 ?_ ?_ (s4.trans st)
     · rw [er]; exact upd_same
     · rw [er]; exact st _ _ h4
     · rw [er]; exact sqt_mono st hs
def sp_end_of (K : PySem.W.Frag) : Sp := fun vs H Q _ => ∃ (tw lk s : Addr) (ks : List Str) (w u : Str) (o : Option Str), vs = [.ref tw] ∧ H tw = some (.tup [.ref lk, .ref s, wordV o]) ∧ H lk = some (.lst (ks.map V.str)) ∧ SqT K H s [.str w, .str u] ∧ (o = none → isRow w u = true → Q .non H) ∧ ((o = none → isRow w u = false) → ∀ t, H t = none → Q (.ref t) (upd H t (.tup [.int ks.length, .int (cntE ks), .str (o.getD (Str.ofString "cut"))])))
theorem ok_end_of : FnOk P w K mg base CX0 1 f_end_of fd_end_of ["walked"] (sp_end_of K) := by
 refine T.F_end_of.ok sc_end_of (fun vs H Q E h => ?_) (fun cdv A outer s H vs Q E hr h => ?_)
 · obtain ⟨tw, lk, s, ks, w, u, o, rfl, _⟩ := h; rfl
 · have hu := hu_of hr
   have hu0 := hr.units0
   obtain ⟨tw, lk, s, ks, w, u, o, rfl, ht, hk, hs, k1, k2⟩ := h
   have hT : SqT K H tw [.ref lk, .ref s, wordV o] := SqT.of ht
   refine ⟨_, (pss_cons (ps_set (i := 1) sc_end_of.nd rfl (by first | exact Or.inl rfl | exact Or.inr rfl) (pe_ix (ixK_tup K rfl) (pv 0) pe_int (fun _ _ => rfl)))
     (pss_cons (ps_set (i := 2) sc_end_of.nd rfl (by first | exact Or.inl rfl | exact Or.inr rfl) (pe_ix (ixK_tup K rfl) (pv 0) pe_int (fun _ _ => rfl)))
     (pss_cons (ps_if (PW.pt (pw_and (pt_cmpR op_isN (pv 2) pe_non (nomark _)) (pw_and1 (pt_cmpR (op_eqT K rfl hu0) (pe_ix (ixK_tup K rfl) (pv 0) pe_int (fun _ _ => rfl)) (pe_gref rfl T.gl_START) (nomark _))))) (pss_one (ps_ret pe_non)) pss_nil)
     (pss_one (ps_ret (pe_tup (pa_cons (pe_callB (callK_len_seq K rfl) rfl T.no_len (by decide +kernel) (pa_cons (pv 1) pa_nil)) (pa_cons (peK_bm K rfl PySem.F.plainAttrs_list PySem.F.slot_list_count PySem.F.type_list_count (mtK_countL K rfl) (pv 1) (pa_cons pe_str pa_nil)) (pa_cons (pe_ifExp (pt_cmpR op_isN (pv 2) pe_non (nomark _)) pe_str (pv 2)) pa_nil))))))))), ?_⟩
   refine ⟨_, rfl, tw, _, _, _, rfl, rfl, hT, rfl, _, rfl, tw, _, _, _, rfl, rfl, hT, rfl, ?_⟩
   cases o with
   | none =>
     refine ⟨_, rfl, rfl, _, rfl, iteBt (decide_eq_true rfl) ?_⟩
     refine ⟨_, rfl, tw, _, _, _, rfl, rfl, hT, rfl, s, a_START, _, _, rfl, rfl, hs, .inr T.tu_START, rfl, rfl, _, rfl, ite2 (fun (h1 : isRow w u = true) => ?_) (fun (h1 : ¬ isRow w u = true) => ?_)⟩
     · exact k1 rfl h1
     · refine ⟨_, rfl, lk, _, rfl, .inl (SqL.of hk), _, rfl, .inl ⟨rfl, _, SqL.of hk⟩, lk, _, _, rfl, rfl, SqL.of hk, rfl, strs_flat ks, _, rfl, rfl, _, rfl, iteBt (decide_eq_true rfl) ?_⟩
       rw [List.length_map]
       exact ⟨(by show 3 ≤ sizeLine; decide), fun t ht => k2 (fun _ => no_of h1) t ht⟩
   | some e =>
     refine ⟨_, rfl, rfl, _, rfl, iteBf (decide_eq_false (by intro z; cases z)) (iteF ?_)⟩
     refine ⟨_, rfl, lk, _, rfl, .inl (SqL.of hk), _, rfl, .inl ⟨rfl, _, SqL.of hk⟩, lk, _, _, rfl, rfl, SqL.of hk, rfl, strs_flat ks, _, rfl, rfl, _, rfl, iteBf (decide_eq_false (by intro z; cases z)) ?_⟩
     rw [List.length_map]
     exact ⟨_, rfl, (by show 3 ≤ sizeLine; decide), fun t ht => k2 (fun z => by cases z) t ht⟩
def sp_table_of (K : PySem.W.Frag) : Sp := fun vs H Q _ => ∃ (z : Str) (lk : Addr) (ks : List Str), vs = [.str z, .ref lk] ∧ H lk = some (.lst (ks.map V.str)) ∧ z.length ≤ 2000 ∧ ∀ (l : Addr) (es : List V) (H' : Hp), H l = none → H' l = some (.lst es) → V.ref l ∉ es → es.Nodup → Rws H H' es (tabM z ks) → Same H H' → Q (.ref l) H'
theorem ok_table_of : FnOk P w K mg base CX0 1 f_table_of fd_table_of ["text", "kinds"] (sp_table_of K) := by
 refine T.F_table_of.ok sc_table_of (fun vs H Q E h => ?_) (fun cdv A outer s H vs Q E hr h => ?_)
 · obtain ⟨z, lk, ks, rfl, _⟩ := h; rfl
 · have hu := hu_of hr
   have hu0 := hr.units0
   obtain ⟨z, lk, ks, rfl, hk, hz, k⟩ := h
   refine ⟨_, (pss_cons (ps_set (i := 2) sc_table_of.nd rfl (by first | exact Or.inl rfl | exact Or.inr rfl) (pe_lst pa_nil))
     (pss_cons (ps_set (i := 3) sc_table_of.nd rfl (by first | exact Or.inl rfl | exact Or.inr rfl) (pe_lst pa_nil))
     (pss_cons (ps_set (i := 4) sc_table_of.nd rfl (by first | exact Or.inl rfl | exact Or.inr rfl) pe_str)
     (pss_cons (ps_for PassesOwn.never rfl (piK_zipS K rfl rfl T.no_zip (pa_cons (pv 0) (pa_cons (pv 1) pa_nil))) (pgK_tup K rfl 2 rfl (pgs_cons (pg_name (i := 5) sc_table_of.nd rfl (by first | exact Or.inl rfl | exact Or.inr rfl)) (pgs_cons (pg_name (i := 6) sc_table_of.nd rfl (by first | exact Or.inl rfl | exact Or.inr rfl)) pgs_nil)))
     (pss_one (ps_if (pt_cmpR op_eq (pv 6) pe_str (nomark _)) (pss_one (ps_set (i := 4) sc_table_of.nd rfl (by first | exact Or.inl rfl | exact Or.inr rfl) (pe_op op_add_str (pv 4) (pv 5)))) (pss_one (ps_if (pt_cmpR op_eq (pv 6) pe_str (nomark _)) (pss_cons (ps_expr (peK_bm K rfl PySem.F.plainAttrs_list PySem.F.slot_list_append PySem.F.type_list_append mt_append (pv 3) (pa_cons (pv 4) pa_nil)))
     (pss_one (ps_set (i := 4) sc_table_of.nd rfl (by first | exact Or.inl rfl | exact Or.inr rfl) pe_str))) (pss_one (ps_if (pt_cmpR op_eq (pv 6) pe_str (nomark _)) (pss_cons (ps_expr (peK_bm K rfl PySem.F.plainAttrs_list PySem.F.slot_list_append PySem.F.type_list_append mt_append (pv 3) (pa_cons (pv 4) pa_nil)))
     (pss_cons (ps_expr (peK_bm K rfl PySem.F.plainAttrs_list PySem.F.slot_list_append PySem.F.type_list_append mt_append (pv 2) (pa_cons (pv 3) pa_nil)))
     (pss_cons (ps_set (i := 3) sc_table_of.nd rfl (by first | exact Or.inl rfl | exact Or.inr rfl) (pe_lst pa_nil))
     (pss_one (ps_set (i := 4) sc_table_of.nd rfl (by first | exact Or.inl rfl | exact Or.inr rfl) pe_str))))) pss_nil)))))))
     (pss_one (ps_ret (pv 2))))))), ?_⟩
   refine ⟨by decide, fun lt hlt => ?_⟩
   have s1 := same_new (o := HO.lst []) hlt
   refine ⟨by decide, fun r0 hr0 => ?_⟩
   have s2 := same_new (o := HO.lst []) hr0
   have a1 : (upd (upd H lt (.lst [])) r0 (.lst [])) lt = some (.lst []) := s2 _ _ upd_same
   have a2 : (upd (upd H lt (.lst [])) r0 (.lst [])) r0 = some (.lst []) := upd_same
   have n0 : r0 ≠ lt := fun q => by rw [q, upd_same] at hr0; cases hr0
   have fr := s1.free hr0
   have s12 := s1.trans s2
   generalize upd (upd H lt (.lst [])) r0 (.lst []) = H1 at a1 a2 s12 ⊢
   refine ⟨_, rfl, _, rfl, z, lk, rfl, ⟨_, SqL.of (s12 _ _ hk)⟩, ?_⟩
   have hz' : z.cps.size ≤ 2000 := hz
   have e0 : (Str.ofString "").length = 0 := by decide +kernel
   refine for_zipS (K := K) (z := z) (b := lk) (ys := ks.map V.str) (fun i σ H2 => Same H H2 ∧ ∃ rr es row cell v5 v6, σ = [some (.str z), some (.ref lk), some (.ref lt), some (.ref rr), some (.str cell), v5, v6] ∧ H rr = none ∧ H2 lt = some (.lst es) ∧ H2 rr = some (.lst (row.map V.str)) ∧ rr ≠ lt ∧ V.ref lt ∉ es ∧ V.ref rr ∉ es ∧ es.Nodup ∧ ∃ rows, Rws H H2 es rows ∧ groL gro0 (z.cps.toList.take i) (ks.take i) = ⟨rows, row, cell⟩ ∧ cell.length ≤ i ∧ row.length ≤ i ∧ es.length ≤ i) ⟨s12, r0, [], [], _, _, _, rfl, fr, a1, a2, n0, by simp, by simp, List.nodup_nil, [], .nil, rfl, by rw [e0]; exact Nat.le_refl _, Nat.le_refl _, Nat.le_refl _⟩ (fun i σ H2 _ q => SqL.of (q.1 _ _ hk)) ?_ ?_
   · rintro i c y t σ H2 hc hy ht ⟨s3, rr, es, row, cell, v5, v6, rfl, fr', b1, b2, nr, n1, n2, nd, rows, rw', hg, l1, l2, l3⟩
     obtain ⟨kd, hkd, rfl⟩ := strV_at hy
     have hil := (Array.getElem?_eq_some_iff.mp hc).1
     have hc' : z.cps.toList[i]? = some c := by simpa using hc
     have hgn := groL_take gro0 z.cps.toList ks i c kd hc' hkd
     rw [hg] at hgn
     have st := same_new (o := HO.tup [.str (sg c), .str kd]) ht
     refine ⟨t, _, rfl, SqT.of upd_same, rfl, _, _, rfl, _, _, rfl, rfl, ?_⟩
     have s4 := s3.trans st
     replace b1 := st _ _ b1
     replace b2 := st _ _ b2
     replace rw' := Rws.mono st rw'
     generalize upd H2 t (.tup [.str (sg c), .str kd]) = H3 at s4 b1 b2 rw' ⊢
     clear st ht s3
     unfold gro at hgn
     refine ⟨_, rfl, rfl, _, rfl, ite2 (fun h1 => ?_) (fun h1 => ?_)⟩
     · have h1 : isS kd (Str.ofString "put") = true := h1
       rw [if_pos h1] at hgn
       refine ⟨_, rfl, _, rfl, _, _, rfl, rfl, Nat.le_trans (show cell.length + 1 ≤ 2001 by omega) (by decide), ?_⟩
       exact ⟨s4, rr, es, row, _, _, _, rfl, fr', b1, b2, nr, n1, n2, nd, rows, rw', hgn, by rw [app_len]; show cell.length + 1 ≤ _; omega, by omega, by omega⟩
     have h1 : ¬ isS kd (Str.ofString "put") = true := h1
     rw [if_neg h1] at hgn
     refine ⟨_, rfl, rfl, _, rfl, ite2 (fun h2 => ?_) (fun h2 => ?_)⟩
     · have h2 : isS kd (Str.ofString "part") = true := h2
       rw [if_pos h2] at hgn
       refine ⟨_, rfl, .inl ⟨rfl, _, SqL.of b2⟩, _, rfl, rr, _, _, rfl, rfl, b2, by rw [List.length_map]; exact Nat.lt_of_le_of_lt l2 (Nat.lt_of_lt_of_le (show i < 2001 by omega) (by decide)), ?_⟩
       refine ⟨same_set fr' s4, rr, es, row ++ [cell], _, _, _, rfl, fr', (upd_ne (Ne.symm nr)).trans b1, by rw [upd_same, List.map_append]; rfl, nr, n1, n2, nd, rows, Rws.but n2 rw', hgn, by rw [e0]; omega, by rw [List.length_append]; show row.length + 1 ≤ _; omega, by omega⟩
     have h2 : ¬ isS kd (Str.ofString "part") = true := h2
     rw [if_neg h2] at hgn
     refine ⟨_, rfl, rfl, _, rfl, ite2 (fun h3 => ?_) (fun h3 => ?_)⟩
     · have h3 : isS kd (Str.ofString "end") = true := h3
       rw [if_pos h3] at hgn
       refine ⟨_, rfl, .inl ⟨rfl, _, SqL.of b2⟩, _, rfl, rr, _, _, rfl, rfl, b2, by rw [List.length_map]; exact Nat.lt_of_le_of_lt l2 (Nat.lt_of_lt_of_le (show i < 2001 by omega) (by decide)), ?_⟩
       have c1 : (upd H3 rr (.lst (row.map V.str ++ [.str cell]))) lt = some (.lst es) := (upd_ne (Ne.symm nr)).trans b1
       refine ⟨_, rfl, .inl ⟨rfl, _, SqL.of c1⟩, _, rfl, lt, es, _, rfl, rfl, c1, Nat.lt_of_le_of_lt l3 (Nat.lt_of_lt_of_le (show i < 2001 by omega) (by decide)), ?_⟩
       have s5 : Same H (upd (upd H3 rr (.lst (row.map V.str ++ [.str cell]))) lt (.lst (es ++ [.ref rr]))) := same_set hlt (same_set fr' s4)
       have d1 : (upd (upd H3 rr (.lst (row.map V.str ++ [.str cell]))) lt (.lst (es ++ [.ref rr]))) lt = some (.lst (es ++ [.ref rr])) := upd_same
       have d2 : (upd (upd H3 rr (.lst (row.map V.str ++ [.str cell]))) lt (.lst (es ++ [.ref rr]))) rr = some (.lst ((row ++ [cell]).map V.str)) := by rw [upd_ne nr, upd_same, List.map_append]; rfl
       have nl : V.ref lt ∉ es ++ [V.ref rr] := fun q => by
         rcases List.mem_append.mp q with q | q
         · exact n1 q
         · exact nr (V.ref.inj (List.mem_singleton.mp q)).symm
       have rw5 : Rws H (upd (upd H3 rr (.lst (row.map V.str ++ [.str cell]))) lt (.lst (es ++ [.ref rr]))) (es ++ [.ref rr]) (rows ++ [row ++ [cell]]) := Rws.app (Rws.but n1 (Rws.but n2 rw')) (.cons ⟨rr, rfl, fr', d2⟩ .nil)
       have nd5 : (es ++ [V.ref rr]).Nodup := List.nodup_append.mpr ⟨nd, by simp, fun x hx y hy e => n2 (by rw [List.mem_singleton.mp hy] at e; exact e ▸ hx)⟩
       generalize upd (upd H3 rr (.lst (row.map V.str ++ [.str cell]))) lt (.lst (es ++ [.ref rr])) = H5 at s5 d1 d2 rw5 ⊢
       refine ⟨by decide, fun r2 hr2 => ?_⟩
       have sn := same_new (o := HO.lst []) hr2
       have nr2 : r2 ≠ lt := fun q => by rw [q, d1] at hr2; cases hr2
       refine ⟨s5.trans sn, r2, es ++ [.ref rr], [], _, _, _, rfl, s5.free hr2, sn _ _ d1, upd_same, nr2, nl, fun q => ?_, nd5, _, Rws.mono sn rw5, hgn, by rw [e0]; omega, Nat.zero_le _, by rw [List.length_append]; show es.length + 1 ≤ _; omega⟩
       obtain ⟨_, ys, hys⟩ := rw5.has q
       rw [hys] at hr2; cases hr2
     have h3 : ¬ isS kd (Str.ofString "end") = true := h3
     rw [if_neg h3] at hgn
     exact ⟨s4, rr, es, row, cell, _, _, rfl, fr', b1, b2, nr, n1, n2, nd, rows, rw', hgn, by omega, by omega, by omega⟩
   · rintro σ H2 ⟨s3, rr, es, row, cell, v5, v6, rfl, fr', b1, b2, nr, n1, n2, nd, rows, rw', hg, l1, l2, l3⟩
     refine ⟨_, rfl, k lt es H2 hlt b1 n1 nd ?_ s3⟩
     have e : min z.cps.size (ks.map V.str).length = min z.cps.toList.length ks.length := by
       have ez : z.cps.toList.length = z.cps.size := Array.length_toList
       rw [List.length_map, ez]
     rw [e, groL_min] at hg
     have : tabM z ks = rows := by unfold tabM; rw [hg]
     rw [this]
     exact rw'
def sp_reading_of (K : PySem.W.Frag) (C : Addr) : Sp := fun vs H Q _ => ∃ (x dx : Addr) (z : Str) (p q f : Str) (b1 b2 b3 b4 : Bool), vs = [.ref x, .str z] ∧ H x = some (.ins C dx (dfl p q f b1 b2 b3 b4)) ∧ Gd p q f ∧ cellOk z ∧ z.length ≤ 2000 ∧ ∀ v H', RdV H H' v (rdV (runZ p q f b1 b2 b3 b4 z) z) → Same H H' → Q v H'
theorem ok_reading_of : FnOk P w K mg base CX0 9 f_reading_of fd_reading_of ["dialect", "text"] (sp_reading_of K C_Dialect) := by
 have G_end_of : FnOk P w K mg base CX0 1 f_end_of fd_end_of ["walked"] (sp_end_of K) := ok_end_of T
 have G_table_of : FnOk P w K mg base CX0 1 f_table_of fd_table_of ["text", "kinds"] (sp_table_of K) := ok_table_of T
 have G_walk : FnOk P w K mg base CX0 8 f_walk fd_walk ["dialect", "text"] (sp_walk K C_Dialect) := ok_walk T
 refine T.F_reading_of.ok sc_reading_of (fun vs H Q E h => ?_) (fun cdv A outer s H vs Q E hr h => ?_)
 · obtain ⟨x, dx, z, p, q, f, b1, b2, b3, b4, rfl, _⟩ := h; rfl
 · have hu := hu_of hr
   have hu0 := hr.units0
   obtain ⟨x, dx, z, p, q, f, b1, b2, b3, b4, rfl, hx, g, hz, hz2, k⟩ := h
   have hw := fun e => run_word (p := p) (q := q) (f := f) (b1 := b1) (b2 := b2) (b3 := b3) (b4 := b4) (w := Str.ofString "row") (u := Str.ofString "") (cs := z.cps.toList) (e := e)
   refine ⟨_, (pss_cons (ps_set (i := 2) sc_reading_of.nd rfl (by first | exact Or.inl rfl | exact Or.inr rfl) (pe_call (k := 8) G_walk (hr.mono (by decide)) rfl T.g_walk T.F_walk.kp T.b_walk .nil pass0 (pa_cons (pv 0) (pa_cons (pv 1) pa_nil))))
     (pss_cons (ps_if (pt_cmpR op_notN (pe_call (k := 1) G_end_of (hr.mono (by decide)) rfl T.g_end_of T.F_end_of.kp T.b_end_of .nil pass0 (pa_cons (pv 2) pa_nil)) pe_non (nomark _)) (pss_one (ps_ret pe_non)) pss_nil)
     (pss_one (ps_ret (pe_call (k := 1) G_table_of (hr.mono (by decide)) rfl T.g_table_of T.F_table_of.kp T.b_table_of .nil pass0 (pa_cons (pv 1) (pa_cons (pe_ix (ixK_tup K rfl) (pv 2) pe_int (fun _ _ => rfl)) pa_nil))))))), ?_⟩
   refine ⟨_, rfl, _, rfl, x, dx, z, p, q, f, b1, b2, b3, b4, rfl, hx, g, hz, hz2, fun tw lk s H1 ht hl0 hk hs s1 => ?_⟩
   unfold runZ at k
   generalize runM p q f b1 b2 b3 b4 (Str.ofString "row") (Str.ofString "") z.cps.toList = r at ht hk hs hw k
   refine ⟨_, rfl, tw, lk, s, r.1, r.2.1, r.2.2.1, r.2.2.2, rfl, ht, hk, hs, fun h1 h2 => ?_, fun h1 t ht5 => ?_⟩
   · refine ⟨rfl, _, rfl, iteNE (decide_eq_true rfl) ?_⟩
     have hW : lawW r = Str.ofString "" := by unfold lawW; rw [h1]; exact if_pos h2
     refine ⟨_, rfl, _, rfl, tw, _, _, _, rfl, rfl, SqT.of ht, rfl, z, lk, r.1, rfl, hk, hz2, fun l es H2 hl hl2 nl nd rw2 s2 => ?_⟩
     refine k (.ref l) H2 ?_ (s1.trans s2)
     unfold rdV
     rw [if_pos hW]
     exact ⟨l, es, rfl, s1.free hl, hl2, paired_imp (fun a b ⟨c, e1, e2, e3⟩ => ⟨c, e1, s1.free e2, e3⟩) rw2⟩
   have hW : lawW r ≠ Str.ofString "" := by
     unfold lawW
     cases ho : r.2.2.2 with
     | some e => exact (hw e ho).1
     | none =>
       show (if isRow r.2.1 r.2.2.1 = true then Str.ofString "" else Str.ofString "cut") ≠ _
       rw [if_neg (by rw [h1 ho]; decide)]
       exact fun q => absurd (congrArg (fun z => isS z (Str.ofString "")) q) (by decide +kernel)
   refine ⟨rfl, _, rfl, iteNf (decide_eq_false (by intro z; cases z)) ?_⟩
   refine k .non _ ?_ (s1.trans (same_new ht5))
   unfold rdV
   rw [if_neg hW]
   rfl
def sp_is_sole (K : PySem.W.Frag) (C : Addr) : Sp := fun vs H Q _ => ∃ (y dy a o : Addr) (xs os : List V) (t : List (List Str)) (x : Cho) (cs : List Cho) (v : V), vs = [.ref y, .ref a, .ref o, v] ∧ H y = some (.ins C dy (dflC x)) ∧ GdC x ∧ H a = some (.lst xs) ∧ Paired (RelRow H) xs t ∧ H o = some (.lst os) ∧ Mks C H os cs ∧ (∀ c ∈ cs, GdC c) ∧ cs.length ≤ 20 ∧ Knd H v ∧ (∀ z, v = .str z → z.length ≤ 10000) ∧ ∀ H', Same H H' → Q (.bl (soleV x cs t v)) H'
theorem ok_is_sole : FnOk P w K mg base CX0 10 f_is_sole fd_is_sole ["dialect", "table", "others", "text"] (sp_is_sole K C_Dialect) := by
 have G_is_text : FnOk P w K mg base CX0 3 f_is_text fd_is_text ["thing"] (sp_is_text K) := ok_is_text T
 have G_reading_of : FnOk P w K mg base CX0 9 f_reading_of fd_reading_of ["dialect", "text"] (sp_reading_of K C_Dialect) := ok_reading_of T
 refine T.F_is_sole.ok sc_is_sole (fun vs H Q E h => ?_) (fun cdv A outer s H vs Q E hr h => ?_)
 · obtain ⟨y, dy, a, o, xs, os, t, x, cs, v, rfl, _⟩ := h; rfl
 · have hu := hu_of hr
   have hu0 := hr.units0
   obtain ⟨y, dy, a, o, xs, os, t, x, cs, v, rfl, hy, g, ha, pr, ho, mk, gs, hcl, hk, hb, k⟩ := h
   have hu64 := hr.units
   have hol := mk.length
   refine ⟨_, (pss_cons (ps_if (PW.pt (pw_or (pt_not (pt_val (pe_call (k := 3) G_is_text (hr.mono (by decide)) rfl T.g_is_text T.F_is_text.kp T.b_is_text .nil pass0 (pa_cons (pv 3) pa_nil)))) (pw_or1 (pt_cmpR (OpR.orR op_ne (OpR.orR (op_neC K rfl hu64) (op_neM K rfl hu0))) (pe_call (k := 9) G_reading_of (hr.mono (by decide)) rfl T.g_reading_of T.F_reading_of.kp T.b_reading_of .nil pass0 (pa_cons (pv 0) (pa_cons (pv 3) pa_nil))) (pv 1) (nomark _))))) (pss_one (ps_ret pe_bl)) pss_nil)
     (pss_one (ps_ret (pe_not (pe_callB (callK_any K rfl rfl) rfl T.no_any (by decide +kernel) (pa_cons (pe_comp rfl (show CompScope ["dialect", "table", "others", "text"] (defScope s_is_sole) ["other", "table", "text"] 1 [1, 3] _ from ⟨rfl, by decide +kernel, by decide +kernel, by decide +kernel, by decide +kernel, rfl, rfl, by decide +kernel⟩) (piK_list K rfl (pv 2)) (fun _ _ _ _ => (pg_name (i := 0) (show (["other", "table", "text"] : List Str).Nodup by decide +kernel) rfl (by first | exact Or.inl rfl | exact Or.inr rfl))) (fun _ _ _ _ => pif_nil) (fun _ _ _ _ => (pe_cmpR (OpR.orR op_eq (OpR.orR (op_eqC K rfl hu64) (op_eqM K rfl hu0))) (pe_call (k := 9) G_reading_of (hr.mono (by decide)) rfl T.g_reading_of T.F_reading_of.kp T.b_reading_of .nil pass0 (pa_cons (pv 0) (pa_cons (pv 2) pa_nil))) (pv 1) (nomark _)))) pa_nil)))))), ?_⟩
   refine ⟨_, rfl, v, rfl, hk, hb, fun H1 s1 => ⟨_, rfl, ?_⟩⟩
   cases hT : isT v with
   | false =>
     have kk := k H1 s1
     rw [sole_no hT] at kk
     exact iteT (iteT kk)
   | true =>
     obtain ⟨z, rfl, hz, hz2⟩ := isT_str hT
     have eS : soleV x cs t (.str z) = soleZ x cs t z := by show (isT (.str z) && _) = _; rw [hT]; rfl
     rw [eS] at k
     refine iteF ?_
     refine ⟨_, rfl, _, rfl, y, dy, z, x.1, x.2.1, x.2.2.1, x.2.2.2.a, x.2.2.2.b, x.2.2.2.c, x.2.2.2.d, rfl, s1 _ _ hy, g, hz, hz2, fun v1 H2 r1 s2 => ?_⟩
     have s12 := s1.trans s2
     refine ⟨_, rfl, rd_ne r1 (tab_rdv (s12 _ _ ha) (paired_imp (fun a b h => RelRow.mono s12 h) pr)) ?_⟩
     by_cases h1 : rdIs x t z = true
     · have h1' : rdV (runC x z) z = some t := of_decide_eq_true h1
       rw [show rdV (runZ x.1 x.2.1 x.2.2.1 x.2.2.2.a x.2.2.2.b x.2.2.2.c x.2.2.2.d z) z = rdV (runC x z) z from rfl, h1', decide_eq_true rfl]
       refine ⟨_, rfl, iteF ?_⟩
       dsimp only [tNext]
       refine ⟨_, rfl, o, rfl, ⟨_, SqL.of (s12 _ _ ho)⟩, fun D hD => ?_⟩
       refine comp_list (K := K) (a := o) (xs := os) (fun i ys τ J => (∃ v, τ = [v, some (.ref a), some (.str z)]) ∧ Same H2 J ∧ J D = some (.lst ys) ∧ ys = ((cs.take i).map fun y => rdIs y t z).map V.bl) ⟨⟨_, rfl⟩, same_new hD, upd_same, rfl⟩ (fun i ys τ J _ p => ⟨SqL.of (p.2.1 _ _ (s12 _ _ ho)), p.2.2.1⟩) ?_ ?_
       · rintro i e ys τ J hi ⟨⟨w, rfl⟩, sJ, hJ, rfl⟩
         have hil := (List.getElem?_eq_some_iff.mp hi).1
         obtain ⟨x2, hx2, y2, dy2, rfl, hy2⟩ := paired_get mk i e hi
         have s3 := s12.trans sJ
         refine gyes ?_
         refine ⟨_, rfl, _, rfl, y2, dy2, z, x2.1, x2.2.1, x2.2.2.1, x2.2.2.2.a, x2.2.2.2.b, x2.2.2.2.c, x2.2.2.2.d, rfl, s3 _ _ hy2, gs x2 (List.mem_of_getElem? hx2), hz, hz2, fun v3 J3 r3 sJ3 => ?_⟩
         have s33 := s3.trans sJ3
         refine ⟨_, rfl, rd_eq r3 (tab_rdv (s33 _ _ ha) (paired_imp (fun a b h => RelRow.mono s33 h) pr)) ?_⟩
         refine ⟨sJ3 _ _ hJ, ?_, ⟨_, rfl⟩, same_set hD (sJ.trans sJ3), upd_same, ?_⟩
         · rw [List.length_map, List.length_map, List.length_take]
           exact Nat.lt_of_le_of_lt (show _ ≤ 20 by omega) (by decide)
         · rw [take_snocG hx2, List.map_append, List.map_append]; rfl
       · rintro ys τ J ⟨⟨w, rfl⟩, sJ, hJ, rfl⟩
         rw [hol, List.take_of_length_le (Nat.le_refl _)] at hJ
         refine ⟨D, cs.map fun y => rdIs y t z, rfl, SqL.of hJ, ?_⟩
         have kk := k J (s12.trans sJ)
         unfold soleZ at kk
         rw [h1, Bool.true_and] at kk
         have e : (cs.map fun y => rdIs y t z).any id = cs.any fun y => rdIs y t z := by rw [List.any_map]; rfl
         rw [e]
         exact ⟨_, rfl, kk⟩
     · have h1' : rdIs x t z = false := no_of h1
       have h2 : decide (rdV (runC x z) z = some t) = false := h1'
       rw [show rdV (runZ x.1 x.2.1 x.2.2.1 x.2.2.2.a x.2.2.2.b x.2.2.2.c x.2.2.2.d z) z = rdV (runC x z) z from rfl, h2]
       have kk := k H2 s12
       unfold soleZ at kk
       rw [h1', Bool.false_and] at kk
       exact ⟨_, rfl, iteT kk⟩
def sp__law_cell_at (K : PySem.W.Frag) : Sp := fun vs H Q _ => ∃ (a : Addr) (ns : List Int) (i : Int), vs = [.ref a, .int i] ∧ SqL K H a (ns.map V.int) ∧ 0 ≤ i ∧ ∀ r : Int, Q (.int r) H
theorem ok__law_cell_at : FnOk P w K mg base CX0 1 f__law_cell_at fd__law_cell_at ["_law_script", "_law_k"] (sp__law_cell_at K) := by
 refine T.F__law_cell_at.ok sc__law_cell_at (fun vs H Q E h => ?_) (fun cdv A outer s H vs Q E hr h => ?_)
 · obtain ⟨a, ns, i, rfl, _⟩ := h; rfl
 · have hu := hu_of hr
   have hu0 := hr.units0
   obtain ⟨a, ns, i, rfl, hS, hi, k⟩ := h
   refine ⟨_, (pss_cons (ps_if (pt_cmpR op_lt (pv 1) (pe_callB (callK_len_seq K rfl) rfl T.no_len (by decide +kernel) (pa_cons (pv 0) pa_nil)) (nomark _)) (pss_one (ps_ret (pe_ix (ixK_list K rfl) (pv 0) (pv 1) (fun _ _ => rfl)))) pss_nil)
     (pss_one (ps_ret pe_int))), ?_⟩
   refine ⟨_, rfl, _, rfl, a, _, rfl, .inl hS, _, _, rfl, rfl, _, rfl, ?_⟩
   refine ite2 (fun hc => ?_) (fun _ => ?_)
   · have hlt := of_decide_eq_true hc
     obtain ⟨v, ev, hv⟩ := at_int hi hlt
     obtain ⟨r, _, rfl⟩ := List.mem_map.mp hv
     exact ⟨_, rfl, _, rfl, a, _, _, _, rfl, rfl, hS, ev, k r⟩
   · exact k 0
def sp__law_mixed : Sp := fun vs H Q _ => ∃ a b : Int, vs = [.int a, .int b] ∧ 0 ≤ a ∧ a < 4294967296 ∧ 0 ≤ b ∧ b < 65536 ∧ ∀ r : Int, 0 ≤ r → r < 49979687 → Q (.int r) H
theorem ok__law_mixed : FnOk P w K mg base CX0 1 f__law_mixed fd__law_mixed ["_law_number_here", "_law_salt"] sp__law_mixed := by
 refine T.F__law_mixed.ok sc__law_mixed (fun vs H Q E h => ?_) (fun cdv A outer s H vs Q E hr h => ?_)
 · obtain ⟨a, b, rfl, _⟩ := h; rfl
 · have hu := hu_of hr
   have hu0 := hr.units0
   obtain ⟨a, b, rfl, ha, ha', hb, hb', k⟩ := h
   refine ⟨_, (pss_cons (ps_set (i := 2) sc__law_mixed.nd rfl (by first | exact Or.inl rfl | exact Or.inr rfl) (pe_op op_mod (pe_op op_add (pe_op op_mul (pv 0) (pe_op op_add pe_int (pe_op op_mul pe_int (pv 1)))) (pe_op op_mul pe_int (pv 1))) pe_int))
     (pss_cons (ps_set (i := 3) sc__law_mixed.nd rfl (by first | exact Or.inl rfl | exact Or.inr rfl) (pe_op op_mod (pe_op op_add (pe_op op_mul (pv 2) (pv 2)) (pv 1)) pe_int))
     (pss_one (ps_ret (pe_op op_mod (pe_op op_add (pe_op op_mul (pv 3) (pv 3)) (pv 2)) pe_int))))), ?_⟩
   refine ⟨_, rfl, _, rfl, _, _, rfl, rfl, .inl ⟨by decide, by decide⟩, _, _, rfl, rfl, _, _, rfl, rfl, .inl ⟨by omega, by omega⟩, _, rfl, _, _, rfl, rfl, .inl ⟨by decide, by decide⟩, _, _, rfl, rfl, _, _, rfl, rfl, (by show (0 : Int) < 15485863; decide), ?_⟩
   have h1 := Int.emod_nonneg (a * (1299709 + 210 * b) + 7919 * b) (show (15485863 : Int) ≠ 0 by decide)
   have h2 := Int.emod_lt_of_pos (a * (1299709 + 210 * b) + 7919 * b) (show (0 : Int) < 15485863 by decide)
   refine ⟨_, rfl, _, rfl, _, _, rfl, rfl, .inl ⟨by omega, by omega⟩, _, rfl, _, _, rfl, rfl, _, _, rfl, rfl, (by show (0 : Int) < 32452843; decide), ?_⟩
   refine ⟨_, rfl, _, rfl, _, _, rfl, rfl, .inl ⟨?_, ?_⟩, _, rfl, _, _, rfl, rfl, _, _, rfl, rfl, (by show (0 : Int) < 49979687; decide), ?_⟩
   · exact Int.lt_of_lt_of_le (by decide) (Int.emod_nonneg _ (by decide))
   · exact Int.lt_trans (Int.emod_lt_of_pos _ (by decide)) (by decide)
   · exact k _ (Int.emod_nonneg _ (by decide)) (Int.emod_lt_of_pos _ (by decide))
def sp__law_number : Sp := fun vs H Q _ => ∃ c s : Int, vs = [.int c, .int s] ∧ 0 ≤ s ∧ s < 60000 ∧ ∀ r : Int, Q (.int r) H
theorem ok__law_number : FnOk P w K mg base CX0 2 f__law_number fd__law_number ["_law_cell", "_law_salt"] sp__law_number := by
 have G__law_mixed : FnOk P w K mg base CX0 1 f__law_mixed fd__law_mixed ["_law_number_here", "_law_salt"] sp__law_mixed := ok__law_mixed T
 refine T.F__law_number.ok sc__law_number (fun vs H Q E h => ?_) (fun cdv A outer s H vs Q E hr h => ?_)
 · obtain ⟨c, s, rfl, _⟩ := h; rfl
 · have hu := hu_of hr
   have hu0 := hr.units0
   obtain ⟨c, sa, rfl, hs, hs', k⟩ := h
   refine ⟨_, (pss_cons (ps_if (PW.pt (pw_and (pt_cmpR op_eq (pe_op op_mod (pv 0) pe_int) pe_int (nomark _)) (pw_and1 (pt_cmpR op_ge (pv 0) (pe_op op_mul pe_int (pe_op op_pow pe_int pe_int)) (nomark _))))) (pss_one (ps_ret (pe_op op_sub (pe_op op_fdiv (pv 0) pe_int) (pe_op op_pow pe_int pe_int)))) pss_nil)
     (pss_cons (ps_set (i := 2) sc__law_number.nd rfl (by first | exact Or.inl rfl | exact Or.inr rfl) (pe_op op_mod (pv 0) pe_int))
     (pss_cons (ps_set (i := 3) sc__law_number.nd rfl (by first | exact Or.inl rfl | exact Or.inr rfl) (pe_op op_add (pe_op op_mul (pe_call (k := 1) G__law_mixed (hr.mono (by decide)) rfl T.g__law_mixed T.F__law_mixed.kp T.b__law_mixed .nil pass0 (pa_cons (pv 2) (pa_cons (pv 1) pa_nil))) pe_int) (pe_call (k := 1) G__law_mixed (hr.mono (by decide)) rfl T.g__law_mixed T.F__law_mixed.kp T.b__law_mixed .nil pass0 (pa_cons (pv 2) (pa_cons (pe_op op_add (pv 1) pe_int) pa_nil)))))
     (pss_one (ps_ret (pe_op op_add (pe_op op_mul (pv 3) pe_int) (pe_call (k := 1) G__law_mixed (hr.mono (by decide)) rfl T.g__law_mixed T.F__law_mixed.kp T.b__law_mixed .nil pass0 (pa_cons (pv 2) (pa_cons (pe_op op_add (pv 1) pe_int) pa_nil))))))))), ?_⟩
   have p18 : CPow 10 18 := ⟨by decide, by decide, by decide⟩
   have n0 : 0 ≤ c % 1000000007 := Int.emod_nonneg _ (by decide)
   have n1 : c % 1000000007 < 4294967296 := Int.lt_trans (Int.emod_lt_of_pos _ (by decide)) (by decide)
   refine ⟨_, rfl, _, _, rfl, rfl, (by show (0 : Int) < 2; decide), rfl, _, rfl, ?_⟩
   refine ite2 (fun _ => ?_) (fun _ => ?_)
   · refine ⟨_, rfl, _, _, rfl, rfl, p18, _, _, rfl, rfl, .inl ⟨by decide, by decide⟩, _, _, rfl, rfl, _, rfl, ?_⟩
     refine ite2 (fun _ => ?_) (fun _ => ?_)
     · exact ⟨_, rfl, _, _, rfl, rfl, ⟨by decide, by decide⟩, _, _, rfl, rfl, p18, _, _, rfl, rfl, k _⟩
     · refine ⟨_, rfl, _, _, rfl, rfl, (by show (0 : Int) < 1000000007; decide), ?_⟩
       refine ⟨_, rfl, _, rfl, _, _, rfl, n0, n1, by omega, by omega, fun r1 _ _ => ?_⟩
       refine ⟨_, _, rfl, rfl, .inr ⟨by decide, by decide⟩, _, rfl, _, rfl, _, _, rfl, rfl, _, _, rfl, n0, n1, by omega, by omega, fun r2 _ _ => ⟨_, _, rfl, rfl, ?_⟩⟩
       refine ⟨_, rfl, _, _, rfl, rfl, .inr ⟨by decide, by decide⟩, _, rfl, _, rfl, _, _, rfl, rfl, _, _, rfl, n0, n1, by omega, by omega, fun r3 _ _ => ⟨_, _, rfl, rfl, k _⟩⟩
   · refine ⟨_, rfl, _, _, rfl, rfl, (by show (0 : Int) < 1000000007; decide), ?_⟩
     refine ⟨_, rfl, _, rfl, _, _, rfl, n0, n1, by omega, by omega, fun r1 _ _ => ?_⟩
     refine ⟨_, _, rfl, rfl, .inr ⟨by decide, by decide⟩, _, rfl, _, rfl, _, _, rfl, rfl, _, _, rfl, n0, n1, by omega, by omega, fun r2 _ _ => ⟨_, _, rfl, rfl, ?_⟩⟩
     refine ⟨_, rfl, _, _, rfl, rfl, .inr ⟨by decide, by decide⟩, _, rfl, _, rfl, _, _, rfl, rfl, _, _, rfl, n0, n1, by omega, by omega, fun r3 _ _ => ⟨_, _, rfl, rfl, k _⟩⟩
def sp__law_some : Sp := fun vs H Q _ => ∃ (n m : Int) (me : Str), vs = [.int n, .int m, .str me] ∧ Mn me ∧ 0 ≤ m ∧ m ≤ 3 ∧ ∀ (t : Addr) (z : Str) (r : Int), Sg z → (z.length : Int) ≤ m → (1 ≤ m → 1 ≤ z.length) → H t = none → Q (.ref t) (upd H t (.tup [.str z, .int r]))
theorem ok__law_some : FnOk P w K mg base CX0 1 f__law_some fd__law_some ["_law_number_here", "_law_many", "_law_menu"] sp__law_some := by
 refine T.F__law_some.ok sc__law_some (fun vs H Q E h => ?_) (fun cdv A outer s H vs Q E hr h => ?_)
 · obtain ⟨n, m, me, rfl, _⟩ := h; rfl
 · have hu := hu_of hr
   have hu0 := hr.units0
   obtain ⟨n, m, me, rfl, ⟨hm1, hm2, hm3⟩, h0, h3, k⟩ := h
   have hml : me.length ≤ sizeLine := Nat.le_trans hm2 (by decide)
   refine ⟨_, (pss_cons (ps_set (i := 3) sc__law_some.nd rfl (by first | exact Or.inl rfl | exact Or.inr rfl) pe_str)
     (pss_cons (ps_for PassesOwn.never rfl (pi_range1 rfl T.no_range (pa_cons (pv 1) pa_nil)) (pg_name (i := 4) sc__law_some.nd rfl (by first | exact Or.inl rfl | exact Or.inr rfl))
     (pss_cons (ps_set (i := 5) sc__law_some.nd rfl (by first | exact Or.inl rfl | exact Or.inr rfl) (pe_ix ix_str (pv 2) (pe_op op_mod (pv 0) (pe_callB call_len_str rfl T.no_len (by decide +kernel) (pa_cons (pv 2) pa_nil))) (fun _ _ => rfl)))
     (pss_cons (ps_set (i := 0) sc__law_some.nd rfl (by first | exact Or.inl rfl | exact Or.inr rfl) (pe_op op_fdiv (pv 0) (pe_callB call_len_str rfl T.no_len (by decide +kernel) (pa_cons (pv 2) pa_nil))))
     (pss_one (ps_if (pt_cmpR op_notIn_str (pv 5) (pv 3) rfl) (pss_one (ps_set (i := 3) sc__law_some.nd rfl (by first | exact Or.inl rfl | exact Or.inr rfl) (pe_op op_add_str (pv 3) (pv 5)))) pss_nil)))))
     (pss_one (ps_ret (pe_tup (pa_cons (pv 3) (pa_cons (pv 0) pa_nil))))))), ?_⟩
   refine ⟨_, rfl, m, rfl, by omega, by omega, ?_⟩
   refine for_range (fun i σ H2 => H2 = H ∧ ∃ (r : Int) (z : Str) (v1 v2 : Option V), σ = [some (.int r), some (.int m), some (.str me), some (.str z), v1, v2] ∧ Sg z ∧ z.length ≤ i ∧ (1 ≤ i → 1 ≤ z.length)) ⟨rfl, n, _, _, _, rfl, sg_nil, by decide, fun z => absurd z (by decide)⟩ ?_ ?_
   · rintro i σ H2 hi ⟨rfl, r, z, v1, v2, rfl, g, hz, hz1⟩
     have hlen : me.cps.toList.length = me.length := by rw [Array.length_toList]; rfl
     obtain ⟨c, ec, hc⟩ := at_int (xs := me.cps.toList) (Int.emod_nonneg r (show (me.length : Int) ≠ 0 by omega)) (by rw [hlen]; exact Int.emod_lt_of_pos r (by omega))
     refine ⟨_, rfl, _, rfl, _, rfl, me, rfl, hml, _, _, rfl, rfl, (by show (0 : Int) < me.length; omega), me, _, c, rfl, rfl, hml, ec, ?_⟩
     refine ⟨_, rfl, _, rfl, me, rfl, hml, _, _, rfl, rfl, ⟨by show (0 : Int) < me.length; omega, by show (me.length : Int) < 1073741824; omega⟩, ?_⟩
     refine ⟨_, rfl, _, rfl, _, _, rfl, rfl, _, rfl, ?_⟩
     refine ite2 (fun ha => ?_) (fun ha => ?_)
     · have e1 : (z ++ (⟨#[c]⟩ : Str)).length = z.length + 1 := app_len _ _
       refine ⟨_, rfl, _, rfl, _, _, rfl, rfl, ?_, rfl, _, _, _, _, rfl, sg_add g (hm3 c hc) ha, by rw [e1]; omega, fun _ => by rw [e1]; omega⟩
       exact Nat.le_trans (show z.length + 1 ≤ 5 by omega) (by decide)
     · refine ⟨rfl, _, _, _, _, rfl, g, by omega, fun _ => ?_⟩
       have hin : c ∈ z.cps.toList := Classical.byContradiction fun q => ha ((away_iff z c).mpr q)
       have := List.length_pos_of_mem hin
       rw [Array.length_toList] at this
       exact this
   · rintro σ H2 ⟨rfl, r, z, v1, v2, rfl, g, hz, hz1⟩
     exact ⟨_, rfl, _, rfl, (by show 2 ≤ sizeLine; decide), fun t ht => k t z r g (by omega) (fun q => hz1 (by omega)) ht⟩
def sp__law_menus : Sp := fun vs H Q _ => ∃ n : Int, vs = [.int n] ∧ ∀ (l : Addr) (m1 m2 m3 : Str), Mn m1 → Mn m2 → Mn m3 → (n ≠ 0 → n ≠ 1 → m1.length = 94) → H l = none → Q (.ref l) (upd H l (.lst [.str m1, .str m2, .str m3]))
theorem ok__law_menus : FnOk P w K mg base CX0 1 f__law_menus fd__law_menus ["_law_way"] sp__law_menus := by
 refine T.F__law_menus.ok sc__law_menus (fun vs H Q E h => ?_) (fun cdv A outer s H vs Q E hr h => ?_)
 · obtain ⟨n, rfl, _⟩ := h; rfl
 · have hu := hu_of hr
   have hu0 := hr.units0
   obtain ⟨n, rfl, k⟩ := h
   refine ⟨_, (pss_cons (ps_set (i := 1) sc__law_menus.nd rfl (by first | exact Or.inl rfl | exact Or.inr rfl) pe_str)
     (pss_cons (ps_if (pt_cmpR op_eq (pv 0) pe_int (nomark _)) (pss_one (ps_ret (pe_lst (pa_cons pe_str (pa_cons pe_str (pa_cons pe_str pa_nil)))))) pss_nil)
     (pss_cons (ps_if (pt_cmpR op_eq (pv 0) pe_int (nomark _)) (pss_one (ps_ret (pe_lst (pa_cons pe_str (pa_cons pe_str (pa_cons pe_str pa_nil)))))) pss_nil)
     (pss_one (ps_ret (pe_lst (pa_cons (pv 1) (pa_cons (pv 1) (pa_cons (pv 1) pa_nil))))))))), ?_⟩
   refine ⟨_, rfl, rfl, _, rfl, ?_⟩
   refine ite2 (fun h0 => ?_) (fun _ => ?_)
   · exact ⟨by decide, fun l hl => k l _ _ _ (by decide +kernel) (by decide +kernel) (by decide +kernel) (fun q _ => absurd (int_eq h0) q) hl⟩
   · refine ⟨_, rfl, rfl, _, rfl, ?_⟩
     refine ite2 (fun h1 => ?_) (fun _ => ?_)
     · exact ⟨by decide, fun l hl => k l _ _ _ (by decide +kernel) (by decide +kernel) (by decide +kernel) (fun _ q => absurd (int_eq h1) q) hl⟩
     · exact ⟨_, rfl, _, rfl, _, rfl, by decide, fun l hl => k l _ _ _ (by decide +kernel) (by decide +kernel) (by decide +kernel) (fun _ _ => by decide +kernel) hl⟩
def sp__law_told : Sp := fun vs H Q _ => ∃ c : Int, vs = [.int c] ∧ ∀ (t : Addr) (p q f : Str) (b1 b2 b3 b4 : Bool) (H' : Hp), Gd p q f → H t = none → H' t = some (.tup (seven p q f b1 b2 b3 b4)) → Same H H' → Q (.ref t) H'
theorem ok__law_told : FnOk P w K mg base CX0 3 f__law_told fd__law_told ["_law_cell"] sp__law_told := by
 have G__law_menus : FnOk P w K mg base CX0 1 f__law_menus fd__law_menus ["_law_way"] sp__law_menus := ok__law_menus T
 have G__law_number : FnOk P w K mg base CX0 2 f__law_number fd__law_number ["_law_cell", "_law_salt"] sp__law_number := ok__law_number T
 have G__law_some : FnOk P w K mg base CX0 1 f__law_some fd__law_some ["_law_number_here", "_law_many", "_law_menu"] sp__law_some := ok__law_some T
 refine T.F__law_told.ok sc__law_told (fun vs H Q E h => ?_) (fun cdv A outer s H vs Q E hr h => ?_)
 · obtain ⟨c, rfl, _⟩ := h; rfl
 · have hu := hu_of hr
   have hu0 := hr.units0
   obtain ⟨c, rfl, k⟩ := h
   refine ⟨_, (pss_cons (ps_set (i := 1) sc__law_told.nd rfl (by first | exact Or.inl rfl | exact Or.inr rfl) (pe_call (k := 2) G__law_number (hr.mono (by decide)) rfl T.g__law_number T.F__law_number.kp T.b__law_number .nil pass0 (pa_cons (pv 0) (pa_cons pe_int pa_nil))))
     (pss_cons (ps_set (i := 2) sc__law_told.nd rfl (by first | exact Or.inl rfl | exact Or.inr rfl) (pe_op op_mod (pv 1) pe_int))
     (pss_cons (ps_set (i := 3) sc__law_told.nd rfl (by first | exact Or.inl rfl | exact Or.inr rfl) (pe_lst (pa_cons (pe_op op_add pe_int (pe_op op_mod (pe_op op_fdiv (pv 1) pe_int) pe_int)) (pa_cons (pe_op op_mod (pe_op op_fdiv (pv 1) pe_int) pe_int) (pa_cons (pe_op op_mod (pe_op op_fdiv (pv 1) pe_int) pe_int) pa_nil)))))
     (pss_cons (ps_set (i := 4) sc__law_told.nd rfl (by first | exact Or.inl rfl | exact Or.inr rfl) (pe_call (k := 1) G__law_menus (hr.mono (by decide)) rfl T.g__law_menus T.F__law_menus.kp T.b__law_menus .nil pass0 (pa_cons (pe_op op_mod (pe_op op_fdiv (pv 1) pe_int) pe_int) pa_nil)))
     (pss_cons (ps_asg (pe_call (k := 1) G__law_some (hr.mono (by decide)) rfl T.g__law_some T.F__law_some.kp T.b__law_some .nil pass0 (pa_cons (pe_op op_fdiv (pv 1) pe_int) (pa_cons (pe_ix (ixK_list K rfl) (pv 3) pe_int (fun _ _ => rfl)) (pa_cons (pe_ix (ixK_list K rfl) (pv 4) pe_int (fun _ _ => rfl)) pa_nil)))) (pgK_tup K rfl 2 rfl (pgs_cons (pg_name (i := 5) sc__law_told.nd rfl (by first | exact Or.inl rfl | exact Or.inr rfl)) (pgs_cons (pg_name (i := 1) sc__law_told.nd rfl (by first | exact Or.inl rfl | exact Or.inr rfl)) pgs_nil))))
     (pss_cons (ps_asg (pe_call (k := 1) G__law_some (hr.mono (by decide)) rfl T.g__law_some T.F__law_some.kp T.b__law_some .nil pass0 (pa_cons (pv 1) (pa_cons (pe_ix (ixK_list K rfl) (pv 3) pe_int (fun _ _ => rfl)) (pa_cons (pe_ix (ixK_list K rfl) (pv 4) pe_int (fun _ _ => rfl)) pa_nil)))) (pgK_tup K rfl 2 rfl (pgs_cons (pg_name (i := 6) sc__law_told.nd rfl (by first | exact Or.inl rfl | exact Or.inr rfl)) (pgs_cons (pg_name (i := 1) sc__law_told.nd rfl (by first | exact Or.inl rfl | exact Or.inr rfl)) pgs_nil))))
     (pss_cons (ps_asg (pe_call (k := 1) G__law_some (hr.mono (by decide)) rfl T.g__law_some T.F__law_some.kp T.b__law_some .nil pass0 (pa_cons (pv 1) (pa_cons (pe_ix (ixK_list K rfl) (pv 3) pe_int (fun _ _ => rfl)) (pa_cons (pe_ix (ixK_list K rfl) (pv 4) pe_int (fun _ _ => rfl)) pa_nil)))) (pgK_tup K rfl 2 rfl (pgs_cons (pg_name (i := 7) sc__law_told.nd rfl (by first | exact Or.inl rfl | exact Or.inr rfl)) (pgs_cons (pg_name (i := 1) sc__law_told.nd rfl (by first | exact Or.inl rfl | exact Or.inr rfl)) pgs_nil))))
     (pss_cons (ps_set (i := 8) sc__law_told.nd rfl (by first | exact Or.inl rfl | exact Or.inr rfl) (pe_lst (pa_cons (pe_cmpR op_eq (pe_op op_mod (pv 2) pe_int) pe_int (nomark _)) (pa_cons (pe_cmpR op_eq (pe_op op_mod (pe_op op_fdiv (pv 2) pe_int) pe_int) pe_int (nomark _)) (pa_cons (pe_cmpR op_eq (pe_op op_mod (pe_op op_fdiv (pv 2) pe_int) pe_int) pe_int (nomark _)) (pa_cons (pe_cmpR op_eq (pe_op op_mod (pe_op op_fdiv (pv 2) pe_int) pe_int) pe_int (nomark _)) pa_nil))))))
     (pss_one (ps_ret (pe_tup (pa_cons (pv 5) (pa_cons (pv 6) (pa_cons (pv 7) (pa_cons (pe_ix (ixK_list K rfl) (pv 8) pe_int (fun _ _ => rfl)) (pa_cons (pe_ix (ixK_list K rfl) (pv 8) pe_int (fun _ _ => rfl)) (pa_cons (pe_ix (ixK_list K rfl) (pv 8) pe_int (fun _ _ => rfl)) (pa_cons (pe_ix (ixK_list K rfl) (pv 8) pe_int (fun _ _ => rfl)) pa_nil)))))))))))))))))), ?_⟩
   refine ⟨_, rfl, _, _, rfl, by decide, by decide, fun n => ?_⟩
   refine ⟨_, rfl, _, _, rfl, rfl, (by show (0 : Int) < 16; decide), ?_⟩
   refine ⟨_, rfl, _, _, rfl, rfl, ⟨by decide, by decide⟩, _, _, rfl, rfl, (by show (0 : Int) < 3; decide), _, _, rfl, rfl, _, rfl, _, _, rfl, rfl, ⟨by decide, by decide⟩, _, _, rfl, rfl, (by show (0 : Int) < 3; decide), _, rfl, _, _, rfl, rfl, ⟨by decide, by decide⟩, _, _, rfl, rfl, (by show (0 : Int) < 3; decide), (by show 3 ≤ sizeLine; decide), fun l hl => ?_⟩
   have m1 := Int.emod_nonneg (n / 16) (show (3 : Int) ≠ 0 by decide)
   have m1' := Int.emod_lt_of_pos (n / 16) (show (0 : Int) < 3 by decide)
   have m2 := Int.emod_nonneg (n / 48) (show (3 : Int) ≠ 0 by decide)
   have m2' := Int.emod_lt_of_pos (n / 48) (show (0 : Int) < 3 by decide)
   have m3 := Int.emod_nonneg (n / 144) (show (3 : Int) ≠ 0 by decide)
   have m3' := Int.emod_lt_of_pos (n / 144) (show (0 : Int) < 3 by decide)
   have h1 : (upd H l (.lst [.int (1 + n / 16 % 3), .int (n / 48 % 3), .int (n / 144 % 3)])) l = some (.lst [.int (1 + n / 16 % 3), .int (n / 48 % 3), .int (n / 144 % 3)]) := upd_same
   have s1 : Same H (upd H l (.lst [.int (1 + n / 16 % 3), .int (n / 48 % 3), .int (n / 144 % 3)])) := same_new hl
   generalize upd H l (.lst [.int (1 + n / 16 % 3), .int (n / 48 % 3), .int (n / 144 % 3)]) = H1 at h1 s1 ⊢
   refine ⟨_, rfl, _, _, rfl, rfl, ⟨by decide, by decide⟩, _, _, rfl, rfl, (by show (0 : Int) < 3; decide), _, rfl, fun l2 e1 e2 e3 g1 g2 g3 _ hl2 => ?_⟩
   have h2 : (upd H1 l2 (.lst [.str e1, .str e2, .str e3])) l2 = some (.lst [.str e1, .str e2, .str e3]) := upd_same
   have s2 : Same H1 (upd H1 l2 (.lst [.str e1, .str e2, .str e3])) := same_new hl2
   generalize upd H1 l2 (.lst [.str e1, .str e2, .str e3]) = H2 at h2 s2 ⊢
   have h12 := s2 _ _ h1
   refine ⟨_, rfl, _, _, rfl, rfl, ⟨by decide, by decide⟩, _, rfl, l, _, _, _, rfl, rfl, SqL.of h12, rfl, _, rfl, l2, _, _, _, rfl, rfl, SqL.of h2, rfl, _, _, _, rfl, g1, by omega, by omega, fun t1 p r1 gp lp lp1 ht1 => ?_⟩
   refine ⟨t1, _, rfl, SqT.of upd_same, rfl, _, _, rfl, _, _, rfl, rfl, ?_⟩
   have s3 : Same H2 (upd H2 t1 (.tup [.str p, .int r1])) := same_new ht1
   generalize upd H2 t1 (.tup [.str p, .int r1]) = H3 at s3 ⊢
   refine ⟨_, rfl, _, rfl, l, _, _, _, rfl, rfl, SqL.of (s3 _ _ h12), rfl, _, rfl, l2, _, _, _, rfl, rfl, SqL.of (s3 _ _ h2), rfl, _, _, _, rfl, g2, by omega, by omega, fun t2 q r2 gq lq lq1 ht2 => ?_⟩
   refine ⟨t2, _, rfl, SqT.of upd_same, rfl, _, _, rfl, _, _, rfl, rfl, ?_⟩
   have s4 : Same H3 (upd H3 t2 (.tup [.str q, .int r2])) := same_new ht2
   generalize upd H3 t2 (.tup [.str q, .int r2]) = H4 at s4 ⊢
   refine ⟨_, rfl, _, rfl, l, _, _, _, rfl, rfl, SqL.of (s4 _ _ (s3 _ _ h12)), rfl, _, rfl, l2, _, _, _, rfl, rfl, SqL.of (s4 _ _ (s3 _ _ h2)), rfl, _, _, _, rfl, g3, by omega, by omega, fun t3 f r3 gf lf lf1 ht3 => ?_⟩
   refine ⟨t3, _, rfl, SqT.of upd_same, rfl, _, _, rfl, _, _, rfl, rfl, ?_⟩
   have s5 : Same H4 (upd H4 t3 (.tup [.str f, .int r3])) := same_new ht3
   generalize upd H4 t3 (.tup [.str f, .int r3]) = H5 at s5 ⊢
   refine ⟨_, rfl, _, _, rfl, rfl, (by show (0 : Int) < 2; decide), rfl, _, rfl, _, _, rfl, rfl, ⟨by decide, by decide⟩, _, _, rfl, rfl, (by show (0 : Int) < 2; decide), rfl, _, rfl, _, _, rfl, rfl, ⟨by decide, by decide⟩, _, _, rfl, rfl, (by show (0 : Int) < 2; decide), rfl, _, rfl, _, _, rfl, rfl, ⟨by decide, by decide⟩, _, _, rfl, rfl, (by show (0 : Int) < 2; decide), rfl, (by show 4 ≤ sizeLine; decide), fun l6 hl6 => ?_⟩
   have s6 := same_new (o := HO.lst [.bl (decide (V.int (n % 16 % 2) = V.int 1)), .bl (decide (V.int (n % 16 / 2 % 2) = V.int 1)), .bl (decide (V.int (n % 16 / 4 % 2) = V.int 1)), .bl (decide (V.int (n % 16 / 8 % 2) = V.int 1))]) hl6
   refine ⟨_, rfl, _, rfl, _, rfl, _, rfl, l6, _, _, _, rfl, rfl, SqL.of upd_same, rfl, _, rfl, l6, _, _, _, rfl, rfl, SqL.of upd_same, rfl, _, rfl, l6, _, _, _, rfl, rfl, SqL.of upd_same, rfl, _, rfl, l6, _, _, _, rfl, rfl, SqL.of upd_same, rfl, (by show 7 ≤ sizeLine; decide), fun t ht => ?_⟩
   have sall := ((((s1.trans s2).trans s3).trans s4).trans s5).trans s6
   exact k t p q f _ _ _ _ _ ⟨gp, gq, gf, lp1 (by omega), by omega, by omega, by omega⟩ (sall.free ht) upd_same (sall.trans (same_new ht))
def sp__law_made (C : Addr) : Sp := fun vs H Q _ => ∃ (t : Addr) (p q f : Str) (b1 b2 b3 b4 : Bool), vs = [.ref t] ∧ H t = some (.tup (seven p q f b1 b2 b3 b4)) ∧ Gd p q f ∧ ∀ (x dx : Addr) (H' : Hp), H x = none → H' x = some (.ins C dx (dfl p q f b1 b2 b3 b4)) → Same H H' → Q (.ref x) H'
theorem ok__law_made : FnOk P w K mg base CX0 5 f__law_made fd__law_made ["_law_told_here"] (sp__law_made C_Dialect) := by
 have G_Dialect___init__ : FnOk P w K mg base CX0 3 f_Dialect___init__ fd_Dialect___init__ ["self", "parts", "quotes", "frees", "twin", "wide", "thin", "stray"] (sp_Dialect___init__ C_Dialect) := ok_Dialect___init__ T
 refine T.F__law_made.ok sc__law_made (fun vs H Q E h => ?_) (fun cdv A outer s H vs Q E hr h => ?_)
 · obtain ⟨t, p, q, f, b1, b2, b3, b4, rfl, _⟩ := h; rfl
 · have hu := hu_of hr
   have hu0 := hr.units0
   obtain ⟨t, p, q, f, b1, b2, b3, b4, rfl, ht, g, k⟩ := h
   have hS : SqT K H t (seven p q f b1 b2 b3 b4) := SqT.of ht
   refine ⟨_, (pss_one (ps_ret (pe_make (k := 3) T.M_Dialect G_Dialect___init__ (hr.mono (by decide)) rfl T.g_Dialect T.b_Dialect___init__ .nil pass0 (pa_cons (pe_ix (ixK_tup K rfl) (pv 0) pe_int (fun _ _ => rfl)) (pa_cons (pe_ix (ixK_tup K rfl) (pv 0) pe_int (fun _ _ => rfl)) (pa_cons (pe_ix (ixK_tup K rfl) (pv 0) pe_int (fun _ _ => rfl)) (pa_cons (pe_ix (ixK_tup K rfl) (pv 0) pe_int (fun _ _ => rfl)) (pa_cons (pe_ix (ixK_tup K rfl) (pv 0) pe_int (fun _ _ => rfl)) (pa_cons (pe_ix (ixK_tup K rfl) (pv 0) pe_int (fun _ _ => rfl)) (pa_cons (pe_ix (ixK_tup K rfl) (pv 0) pe_int (fun _ _ => rfl)) pa_nil)))))))))), ?_⟩
   refine ⟨_, rfl, t, _, _, _, rfl, rfl, hS, rfl, _, rfl, t, _, _, _, rfl, rfl, hS, rfl, _, rfl, t, _, _, _, rfl, rfl, hS, rfl, _, rfl, t, _, _, _, rfl, rfl, hS, rfl, _, rfl, t, _, _, _, rfl, rfl, hS, rfl, _, rfl, t, _, _, _, rfl, rfl, hS, rfl, _, rfl, t, _, _, _, rfl, rfl, hS, rfl, fun x dx hx hdx ne => ?_⟩
   refine ⟨x, dx, p, q, f, b1, b2, b3, b4, rfl, upd_same, g, fun H2 h2 kp => ⟨rfl, k x dx H2 hx h2 fun b o e => kp b o ?_ (ne_of_none e hx)⟩⟩
   rw [upd_ne (ne_of_none e hx), upd_ne (ne_of_none e hdx)]
   exact e
def sp__law_open (K : PySem.W.Frag) : Sp := fun vs H Q _ => ∃ (t s : Addr) (w u : Str) (c : Nat) (p q f : Str) (b1 b2 b3 b4 : Bool), vs = [.ref t, .ref s, .str (sg c)] ∧ SqT K H t (seven p q f b1 b2 b3 b4) ∧ SqT K H s [.str w, .str u] ∧ ∀ v H', Same H H' → RelR K H' v (mOpen p q f b3 b4 w u c) → Q v H'
theorem ok__law_open : FnOk P w K mg base CX0 1 f__law_open fd__law_open ["_law_told_here", "_law_state", "_law_sign"] (sp__law_open K) := by
 refine T.F__law_open.ok sc__law_open (fun vs H Q E h => ?_) (fun cdv A outer s H vs Q E hr h => ?_)
 · obtain ⟨t, s, w, u, c, p, q, f, b1, b2, b3, b4, rfl, _⟩ := h; rfl
 · have hu := hu_of hr
   have hu0 := hr.units0
   obtain ⟨t, s, w, u, c, p, q, f, b1, b2, b3, b4, rfl, ht, hs, k⟩ := h
   refine' ⟨_, ?aa, ?bb⟩
   case aa =>
     refine' pss_cons ?s0 ?r0
     case s0 =>
       exact (ps_asg (pv 0) (pgK_tup K rfl 7 rfl (pgs_cons (pg_name (i := 3) sc__law_open.nd rfl (by first | exact Or.inl rfl | exact Or.inr rfl)) (pgs_cons (pg_name (i := 4) sc__law_open.nd rfl (by first | exact Or.inl rfl | exact Or.inr rfl)) (pgs_cons (pg_name (i := 5) sc__law_open.nd rfl (by first | exact Or.inl rfl | exact Or.inr rfl)) (pgs_cons (pg_name (i := 6) sc__law_open.nd rfl (by first | exact Or.inl rfl | exact Or.inr rfl)) (pgs_cons (pg_name (i := 7) sc__law_open.nd rfl (by first | exact Or.inl rfl | exact Or.inr rfl)) (pgs_cons (pg_name (i := 8) sc__law_open.nd rfl (by first | exact Or.inl rfl | exact Or.inr rfl)) (pgs_cons (pg_name (i := 9) sc__law_open.nd rfl (by first | exact Or.inl rfl | exact Or.inr rfl)) pgs_nil)))))))))
     case r0 =>
       refine' pss_cons ?s1 ?r1
       case s1 =>
         refine' ps_if ?c2 ?b2 ?e2
         case c2 => exact (pt_cmpR op_in_str (pv 2) (pv 5) rfl)
         case b2 =>
           refine' pss_one ?s3
           case s3 =>
             refine' ps_ret ?v4
             case v4 =>
               refine' pe_tup ?a5
               case a5 =>
                 refine' pa_cons ?x6 ?y6 ?z6
                 case z6 => exact rfl
                 case x6 =>
                   exact pe_str
                 case y6 =>
                   refine' pa_cons ?x7 ?y7 ?z7
                   case z7 => exact rfl
                   case x7 =>
                     refine' pe_tup ?a8
                     case a8 =>
                       refine' pa_cons ?x9 ?y9 ?z9
                       case z9 => exact rfl
                       case x9 =>
                         exact pe_str
                       case y9 =>
                         refine' pa_cons ?x10 ?y10 ?z10
                         case z10 => exact rfl
                         case x10 =>
                           exact pe_str
                         case y10 =>
                           exact pa_nil
                   case y7 =>
                     exact pa_nil
         case e2 =>
           exact pss_nil
       case r1 =>
         refine' pss_cons ?s11 ?r11
         case s11 =>
           refine' ps_if ?c12 ?b12 ?e12
           case c12 => exact (pt_cmpR op_eq (pv 2) pe_str (nomark _))
           case b12 =>
             refine' pss_one ?s13
             case s13 =>
               refine' ps_ret ?v14
               case v14 =>
                 refine' pe_tup ?a15
                 case a15 =>
                   refine' pa_cons ?x16 ?y16 ?z16
                   case z16 => exact rfl
                   case x16 =>
                     exact pe_str
                   case y16 =>
                     refine' pa_cons ?x17 ?y17 ?z17
                     case z17 => exact rfl
                     case x17 =>
                       refine' pe_tup ?a18
                       case a18 =>
                         refine' pa_cons ?x19 ?y19 ?z19
                         case z19 => exact rfl
                         case x19 =>
                           exact pe_str
                         case y19 =>
                           refine' pa_cons ?x20 ?y20 ?z20
                           case z20 => exact rfl
                           case x20 =>
                             exact pe_str
                           case y20 =>
                             exact pa_nil
                     case y17 =>
                       exact pa_nil
           case e12 =>
             exact pss_nil
         case r11 =>
           refine' pss_cons ?s21 ?r21
           case s21 =>
             refine' ps_if ?c22 ?b22 ?e22
             case c22 => exact (PW.pt (pw_and (pt_cmpR op_ne (pe_ix (ixK_tup K rfl) (pv 1) pe_int (fun _ _ => rfl)) pe_str (nomark _)) (pw_and1 (pt_cmpR op_in_str (pv 2) (pv 4) rfl))))
             case b22 =>
               refine' pss_one ?s23
               case s23 =>
                 refine' ps_ret ?v24
                 case v24 =>
                   refine' pe_tup ?a25
                   case a25 =>
                     refine' pa_cons ?x26 ?y26 ?z26
                     case z26 => exact rfl
                     case x26 =>
                       exact pe_str
                     case y26 =>
                       refine' pa_cons ?x27 ?y27 ?z27
                       case z27 => exact rfl
                       case x27 =>
                         refine' pe_tup ?a28
                         case a28 =>
                           refine' pa_cons ?x29 ?y29 ?z29
                           case z29 => exact rfl
                           case x29 =>
                             exact pe_str
                           case y29 =>
                             refine' pa_cons ?x30 ?y30 ?z30
                             case z30 => exact rfl
                             case x30 =>
                               exact (pv 2)
                             case y30 =>
                               exact pa_nil
                       case y27 =>
                         exact pa_nil
             case e22 =>
               exact pss_nil
           case r21 =>
             refine' pss_cons ?s31 ?r31
             case s31 =>
               refine' ps_if ?c32 ?b32 ?e32
               case c32 => exact (pt_cmpR op_in_str (pv 2) (pv 3) rfl)
               case b32 =>
                 refine' pss_one ?s33
                 case s33 =>
                   refine' ps_ret ?v34
                   case v34 =>
                     refine' pe_tup ?a35
                     case a35 =>
                       refine' pa_cons ?x36 ?y36 ?z36
                       case z36 => exact rfl
                       case x36 =>
                         exact pe_str
                       case y36 =>
                         refine' pa_cons ?x37 ?y37 ?z37
                         case z37 => exact rfl
                         case x37 =>
                           refine' pe_tup ?a38
                           case a38 =>
                             refine' pa_cons ?x39 ?y39 ?z39
                             case z39 => exact rfl
                             case x39 =>
                               exact pe_str
                             case y39 =>
                               refine' pa_cons ?x40 ?y40 ?z40
                               case z40 => exact rfl
                               case x40 =>
                                 exact pe_str
                               case y40 =>
                                 exact pa_nil
                         case y37 =>
                           exact pa_nil
               case e32 =>
                 exact pss_nil
             case r31 =>
               refine' pss_cons ?s41 ?r41
               case s41 =>
                 refine' ps_if ?c42 ?b42 ?e42
                 case c42 => exact (PW.pt (pw_and (pt_cmpR op_ne (pe_ix (ixK_tup K rfl) (pv 1) pe_int (fun _ _ => rfl)) pe_str (nomark _)) (pw_and (pt_val (pv 8)) (pw_and1 (pt_cmpR op_eq (pv 2) pe_str (nomark _))))))
                 case b42 =>
                   refine' pss_one ?s43
                   case s43 =>
                     refine' ps_ret ?v44
                     case v44 =>
                       refine' pe_tup ?a45
                       case a45 =>
                         refine' pa_cons ?x46 ?y46 ?z46
                         case z46 => exact rfl
                         case x46 =>
                           exact pe_str
                         case y46 =>
                           refine' pa_cons ?x47 ?y47 ?z47
                           case z47 => exact rfl
                           case x47 =>
                             exact (pv 1)
                           case y47 =>
                             exact pa_nil
                 case e42 =>
                   exact pss_nil
               case r41 =>
                 refine' pss_cons ?s48 ?r48
                 case s48 =>
                   refine' ps_if ?c49 ?b49 ?e49
                   case c49 => exact (PW.pt (pw_and (pt_cmpR op_in_str (pv 2) (pv 4) rfl) (pw_and (pt_not (pt_val (pv 9))) (pw_and1 (pt_cmpR op_eq (pe_ix (ixK_tup K rfl) (pv 1) pe_int (fun _ _ => rfl)) pe_str (nomark _))))))
                   case b49 =>
                     refine' pss_one ?s50
                     case s50 =>
                       refine' ps_ret ?v51
                       case v51 =>
                         refine' pe_tup ?a52
                         case a52 =>
                           refine' pa_cons ?x53 ?y53 ?z53
                           case z53 => exact rfl
                           case x53 =>
                             exact pe_str
                           case y53 =>
                             refine' pa_cons ?x54 ?y54 ?z54
                             case z54 => exact rfl
                             case x54 =>
                               exact pe_str
                             case y54 =>
                               exact pa_nil
                   case e49 =>
                     exact pss_nil
                 case r48 =>
                   refine' pss_one ?s55
                   case s55 =>
                     refine' ps_ret ?v56
                     case v56 =>
                       refine' pe_tup ?a57
                       case a57 =>
                         refine' pa_cons ?x58 ?y58 ?z58
                         case z58 => exact rfl
                         case x58 =>
                           exact pe_str
                         case y58 =>
                           refine' pa_cons ?x59 ?y59 ?z59
                           case z59 => exact rfl
                           case x59 =>
                             refine' pe_tup ?a60
                             case a60 =>
                               refine' pa_cons ?x61 ?y61 ?z61
                               case z61 => exact rfl
                               case x61 =>
                                 exact pe_str
                               case y61 =>
                                 refine' pa_cons ?x62 ?y62 ?z62
                                 case z62 => exact rfl
                                 case x62 =>
                                   exact pe_str
                                 case y62 =>
                                   exact pa_nil
                           case y59 =>
                             exact pa_nil
   refine ⟨_, rfl, t, _, rfl, ht, rfl, _, _, rfl, _, _, rfl, _, _, rfl, _, _, rfl, _, _, rfl, _, _, rfl, _, _, rfl, rfl, ?_⟩
   by_cases hw : isS w (Str.ofString "plain") = true
   · refine ⟨_, rfl, _, rfl, _, _, rfl, rfl, _, rfl, ite2 (fun (h1 : inS c f = true) => ?_) (fun (h1 : ¬ inS c f = true) => ?_)⟩
     · exact mk_go (by unfold mOpen mPlain; rw [if_pos hw, if_pos h1]) kf_skip k
     refine ⟨_, rfl, rfl, _, rfl, ite2 (fun (h2 : isS (sg c) (Str.ofString "\n") = true) => ?_) (fun (h2 : ¬ isS (sg c) (Str.ofString "\n") = true) => ?_)⟩
     · exact mk_go (by unfold mOpen mPlain; rw [if_pos hw, if_neg h1, if_pos h2]) kf_end k
     refine ⟨_, rfl, s, _, _, _, rfl, rfl, hs, rfl, rfl, _, rfl, iteNE hw (iteF ?_)⟩
     refine ⟨_, rfl, _, rfl, _, _, rfl, rfl, _, rfl, ite2 (fun (h3 : inS c p = true) => ?_) (fun (h3 : ¬ inS c p = true) => ?_)⟩
     · exact mk_go (by unfold mOpen mPlain; rw [if_pos hw, if_neg h1, if_neg h2, if_pos h3]) kf_part k
     refine ⟨_, rfl, s, _, _, _, rfl, rfl, hs, rfl, rfl, _, rfl, iteNE hw (iteF ?_)⟩
     refine ⟨_, rfl, _, rfl, _, _, rfl, rfl, _, rfl, ite2 (fun (h4 : inS c q = true) => ?_) (fun (h4 : ¬ inS c q = true) => ?_)⟩
     · refine ⟨_, rfl, _, rfl, ite2 (fun (h5 : (!b4) = true) => ?_) (fun (h5 : ¬ (!b4) = true) => ?_)⟩
       · refine ⟨_, rfl, s, _, _, _, rfl, rfl, hs, rfl, rfl, _, rfl, iteBt hw ?_⟩
         exact mk_flt (by unfold mOpen mPlain; rw [if_pos hw, if_neg h1, if_neg h2, if_neg h3, if_pos h4, if_pos h5]) k
       refine iteF ?_
       exact mk_go (by unfold mOpen mPlain; rw [if_pos hw, if_neg h1, if_neg h2, if_neg h3, if_pos h4, if_neg h5]) kf_put k
     refine iteF ?_
     exact mk_go (by unfold mOpen mPlain; rw [if_pos hw, if_neg h1, if_neg h2, if_neg h3, if_neg h4]) kf_put k
   · refine ⟨_, rfl, _, rfl, _, _, rfl, rfl, _, rfl, ite2 (fun (h1 : inS c f = true) => ?_) (fun (h1 : ¬ inS c f = true) => ?_)⟩
     · exact mk_go (by unfold mOpen mBegin; rw [if_neg hw, if_pos h1]) kf_skip k
     refine ⟨_, rfl, rfl, _, rfl, ite2 (fun (h2 : isS (sg c) (Str.ofString "\n") = true) => ?_) (fun (h2 : ¬ isS (sg c) (Str.ofString "\n") = true) => ?_)⟩
     · exact mk_go (by unfold mOpen mBegin; rw [if_neg hw, if_neg h1, if_pos h2]) kf_end k
     refine ⟨_, rfl, s, _, _, _, rfl, rfl, hs, rfl, rfl, _, rfl, iteNf (no_of hw) ?_⟩
     refine ⟨_, rfl, _, rfl, _, _, rfl, rfl, _, rfl, ite2 (fun (h3 : inS c q = true) => ?_) (fun (h3 : ¬ inS c q = true) => ?_)⟩
     · exact ⟨_, rfl, mk_go (by unfold mOpen mBegin; rw [if_neg hw, if_neg h1, if_neg h2, if_pos h3]) kf_skip k⟩
     refine ⟨_, rfl, _, rfl, _, _, rfl, rfl, _, rfl, ite2 (fun (h4 : inS c p = true) => ?_) (fun (h4 : ¬ inS c p = true) => ?_)⟩
     · exact mk_go (by unfold mOpen mBegin; rw [if_neg hw, if_neg h1, if_neg h2, if_neg h3, if_pos h4]) kf_part k
     refine ⟨_, rfl, s, _, _, _, rfl, rfl, hs, rfl, rfl, _, rfl, iteNf (no_of hw) ?_⟩
     refine ⟨_, rfl, _, rfl, ite2 (fun (h5 : b3 = true) => ?_) (fun (h5 : ¬ b3 = true) => ?_)⟩
     · refine ⟨_, rfl, rfl, _, rfl, ite2 (fun (h6 : isS (sg c) (Str.ofString " ") = true) => ?_) (fun (h6 : ¬ isS (sg c) (Str.ofString " ") = true) => ?_)⟩
       · exact ⟨_, rfl, mk_goR (by unfold mOpen mBegin; rw [if_neg hw, if_neg h1, if_neg h2, if_neg h3, if_neg h4, if_pos h6, if_pos h5]) kf_skip (Same.refl _) hs k⟩
       refine ⟨_, rfl, _, rfl, _, _, rfl, rfl, _, rfl, iteBf (no_of h3) (iteF ?_)⟩
       exact mk_go (by unfold mOpen mBegin; rw [if_neg hw, if_neg h1, if_neg h2, if_neg h3, if_neg h4, if_neg h6]) kf_put k
     refine iteF ?_
     refine ⟨_, rfl, _, rfl, _, _, rfl, rfl, _, rfl, iteBf (no_of h3) (iteF ?_)⟩
     exact mk_go (by unfold mOpen mBegin; rw [if_neg hw, if_neg h1, if_neg h2, if_neg h3, if_neg h4]; by_cases h6 : isS (sg c) (Str.ofString " ") = true <;> simp only [h6, h5, if_true, if_false, Bool.false_eq_true]) kf_put k
def sp__law_step (K : PySem.W.Frag) : Sp := fun vs H Q _ => ∃ (t s : Addr) (w u : Str) (c : Nat) (p q f : Str) (b1 b2 b3 b4 : Bool), vs = [.ref t, .ref s, .str (sg c)] ∧ SqT K H t (seven p q f b1 b2 b3 b4) ∧ SqT K H s [.str w, .str u] ∧ ∀ v H', Same H H' → RelR K H' v (stepM p q f b1 b2 b3 b4 w u c) → Q v H'
theorem ok__law_step : FnOk P w K mg base CX0 2 f__law_step fd__law_step ["_law_told_here", "_law_state", "_law_sign"] (sp__law_step K) := by
 have G__law_open : FnOk P w K mg base CX0 1 f__law_open fd__law_open ["_law_told_here", "_law_state", "_law_sign"] (sp__law_open K) := ok__law_open T
 refine T.F__law_step.ok sc__law_step (fun vs H Q E h => ?_) (fun cdv A outer s H vs Q E hr h => ?_)
 · obtain ⟨t, s, w, u, c, p, q, f, b1, b2, b3, b4, rfl, _⟩ := h; rfl
 · have hu := hu_of hr
   have hu0 := hr.units0
   obtain ⟨t, s, w, u, c, p, q, f, b1, b2, b3, b4, rfl, ht, hs, k⟩ := h
   refine' ⟨_, ?aa, ?bb⟩
   case aa =>
     refine' pss_cons ?s0 ?r0
     case s0 =>
       exact (ps_asg (pv 0) (pgK_tup K rfl 7 rfl (pgs_cons (pg_name (i := 3) sc__law_step.nd rfl (by first | exact Or.inl rfl | exact Or.inr rfl)) (pgs_cons (pg_name (i := 4) sc__law_step.nd rfl (by first | exact Or.inl rfl | exact Or.inr rfl)) (pgs_cons (pg_name (i := 5) sc__law_step.nd rfl (by first | exact Or.inl rfl | exact Or.inr rfl)) (pgs_cons (pg_name (i := 6) sc__law_step.nd rfl (by first | exact Or.inl rfl | exact Or.inr rfl)) (pgs_cons (pg_name (i := 7) sc__law_step.nd rfl (by first | exact Or.inl rfl | exact Or.inr rfl)) (pgs_cons (pg_name (i := 8) sc__law_step.nd rfl (by first | exact Or.inl rfl | exact Or.inr rfl)) (pgs_cons (pg_name (i := 9) sc__law_step.nd rfl (by first | exact Or.inl rfl | exact Or.inr rfl)) pgs_nil)))))))))
     case r0 =>
       refine' pss_cons ?s1 ?r1
       case s1 =>
         exact (ps_asg (pv 1) (pgK_tup K rfl 2 rfl (pgs_cons (pg_name (i := 10) sc__law_step.nd rfl (by first | exact Or.inl rfl | exact Or.inr rfl)) (pgs_cons (pg_name (i := 11) sc__law_step.nd rfl (by first | exact Or.inl rfl | exact Or.inr rfl)) pgs_nil))))
       case r1 =>
         refine' pss_cons ?s2 ?r2
         case s2 =>
           refine' ps_if ?c3 ?b3 ?e3
           case c3 => exact (pt_cmpR op_eq (pv 10) pe_str (nomark _))
           case b3 =>
             refine' pss_cons ?s4 ?r4
             case s4 =>
               refine' ps_if ?c5 ?b5 ?e5
               case c5 => exact (pt_cmpR op_in_str (pv 2) (pv 5) rfl)
               case b5 =>
                 refine' pss_one ?s6
                 case s6 =>
                   refine' ps_ret ?v7
                   case v7 =>
                     refine' pe_tup ?a8
                     case a8 =>
                       refine' pa_cons ?x9 ?y9 ?z9
                       case z9 => exact rfl
                       case x9 =>
                         exact pe_str
                       case y9 =>
                         refine' pa_cons ?x10 ?y10 ?z10
                         case z10 => exact rfl
                         case x10 =>
                           refine' pe_tup ?a11
                           case a11 =>
                             refine' pa_cons ?x12 ?y12 ?z12
                             case z12 => exact rfl
                             case x12 =>
                               exact pe_str
                             case y12 =>
                               refine' pa_cons ?x13 ?y13 ?z13
                               case z13 => exact rfl
                               case x13 =>
                                 exact (pv 11)
                               case y13 =>
                                 exact pa_nil
                         case y10 =>
                           exact pa_nil
               case e5 =>
                 exact pss_nil
             case r4 =>
               refine' pss_cons ?s14 ?r14
               case s14 =>
                 refine' ps_if ?c15 ?b15 ?e15
                 case c15 => exact (pt_cmpR op_eq (pv 2) (pv 11) (nomark _))
                 case b15 =>
                   refine' pss_one ?s16
                   case s16 =>
                     refine' ps_ret ?v17
                     case v17 =>
                       refine' pe_tup ?a18
                       case a18 =>
                         refine' pa_cons ?x19 ?y19 ?z19
                         case z19 => exact rfl
                         case x19 =>
                           exact pe_str
                         case y19 =>
                           refine' pa_cons ?x20 ?y20 ?z20
                           case z20 => exact rfl
                           case x20 =>
                             refine' pe_ix (ixK_list K rfl) ?o21 ?i21 ?h21
                             case h21 => exact fun _ _ => rfl
                             case o21 =>
                               refine' pe_lst ?a22
                               case a22 =>
                                 refine' pa_cons ?x23 ?y23 ?z23
                                 case z23 => exact rfl
                                 case x23 =>
                                   refine' pe_tup ?a24
                                   case a24 =>
                                     refine' pa_cons ?x25 ?y25 ?z25
                                     case z25 => exact rfl
                                     case x25 =>
                                       exact pe_str
                                     case y25 =>
                                       refine' pa_cons ?x26 ?y26 ?z26
                                       case z26 => exact rfl
                                       case x26 =>
                                         exact pe_str
                                       case y26 =>
                                         exact pa_nil
                                 case y23 =>
                                   refine' pa_cons ?x27 ?y27 ?z27
                                   case z27 => exact rfl
                                   case x27 =>
                                     refine' pe_tup ?a28
                                     case a28 =>
                                       refine' pa_cons ?x29 ?y29 ?z29
                                       case z29 => exact rfl
                                       case x29 =>
                                         exact pe_str
                                       case y29 =>
                                         refine' pa_cons ?x30 ?y30 ?z30
                                         case z30 => exact rfl
                                         case x30 =>
                                           exact (pv 11)
                                         case y30 =>
                                           exact pa_nil
                                   case y27 =>
                                     exact pa_nil
                             case i21 => exact (pe_callTy call_int1 rfl T.no_int (by decide +kernel) (pa_cons (pv 6) pa_nil))
                           case y20 =>
                             exact pa_nil
                 case e15 =>
                   exact pss_nil
               case r14 =>
                 refine' pss_cons ?s31 ?r31
                 case s31 =>
                   refine' ps_if ?c32 ?b32 ?e32
                   case c32 => exact (PW.pt (pw_and (pt_cmpR op_eq (pv 2) pe_str (nomark _)) (pw_and1 (pt_not (pt_val (pv 7))))))
                   case b32 =>
                     refine' pss_one ?s33
                     case s33 =>
                       refine' ps_ret ?v34
                       case v34 =>
                         refine' pe_tup ?a35
                         case a35 =>
                           refine' pa_cons ?x36 ?y36 ?z36
                           case z36 => exact rfl
                           case x36 =>
                             exact pe_str
                           case y36 =>
                             refine' pa_cons ?x37 ?y37 ?z37
                             case z37 => exact rfl
                             case x37 =>
                               exact pe_str
                             case y37 =>
                               exact pa_nil
                   case e32 =>
                     exact pss_nil
                 case r31 =>
                   refine' pss_one ?s38
                   case s38 =>
                     refine' ps_ret ?v39
                     case v39 =>
                       refine' pe_tup ?a40
                       case a40 =>
                         refine' pa_cons ?x41 ?y41 ?z41
                         case z41 => exact rfl
                         case x41 =>
                           exact pe_str
                         case y41 =>
                           refine' pa_cons ?x42 ?y42 ?z42
                           case z42 => exact rfl
                           case x42 =>
                             exact (pv 1)
                           case y42 =>
                             exact pa_nil
           case e3 =>
             exact pss_nil
         case r2 =>
           refine' pss_cons ?s43 ?r43
           case s43 =>
             refine' ps_if ?c44 ?b44 ?e44
             case c44 => exact (pt_cmpR op_eq (pv 10) pe_str (nomark _))
             case b44 =>
               refine' pss_cons ?s45 ?r45
               case s45 =>
                 refine' ps_if ?c46 ?b46 ?e46
                 case c46 => exact (PW.pt (pw_and (pt_cmpR op_eq (pv 2) pe_str (nomark _)) (pw_and1 (pt_not (pt_val (pv 7))))))
                 case b46 =>
                   refine' pss_one ?s47
                   case s47 =>
                     refine' ps_ret ?v48
                     case v48 =>
                       refine' pe_tup ?a49
                       case a49 =>
                         refine' pa_cons ?x50 ?y50 ?z50
                         case z50 => exact rfl
                         case x50 =>
                           exact pe_str
                         case y50 =>
                           refine' pa_cons ?x51 ?y51 ?z51
                           case z51 => exact rfl
                           case x51 =>
                             exact pe_str
                           case y51 =>
                             exact pa_nil
                 case e46 =>
                   exact pss_nil
               case r45 =>
                 refine' pss_one ?s52
                 case s52 =>
                   refine' ps_ret ?v53
                   case v53 =>
                     refine' pe_tup ?a54
                     case a54 =>
                       refine' pa_cons ?x55 ?y55 ?z55
                       case z55 => exact rfl
                       case x55 =>
                         exact pe_str
                       case y55 =>
                         refine' pa_cons ?x56 ?y56 ?z56
                         case z56 => exact rfl
                         case x56 =>
                           refine' pe_ix (ixK_list K rfl) ?o57 ?i57 ?h57
                           case h57 => exact fun _ _ => rfl
                           case o57 =>
                             refine' pe_lst ?a58
                             case a58 =>
                               refine' pa_cons ?x59 ?y59 ?z59
                               case z59 => exact rfl
                               case x59 =>
                                 refine' pe_tup ?a60
                                 case a60 =>
                                   refine' pa_cons ?x61 ?y61 ?z61
                                   case z61 => exact rfl
                                   case x61 =>
                                     exact pe_str
                                   case y61 =>
                                     refine' pa_cons ?x62 ?y62 ?z62
                                     case z62 => exact rfl
                                     case x62 =>
                                       exact (pv 11)
                                     case y62 =>
                                       exact pa_nil
                               case y59 =>
                                 refine' pa_cons ?x63 ?y63 ?z63
                                 case z63 => exact rfl
                                 case x63 =>
                                   refine' pe_tup ?a64
                                   case a64 =>
                                     refine' pa_cons ?x65 ?y65 ?z65
                                     case z65 => exact rfl
                                     case x65 =>
                                       exact pe_str
                                     case y65 =>
                                       refine' pa_cons ?x66 ?y66 ?z66
                                       case z66 => exact rfl
                                       case x66 =>
                                         exact pe_str
                                       case y66 =>
                                         exact pa_nil
                                 case y63 =>
                                   exact pa_nil
                           case i57 => exact (pe_callTy call_int1 rfl T.no_int (by decide +kernel) (pa_cons (pe_cmpR op_eq (pv 11) pe_str (nomark _)) pa_nil))
                         case y56 =>
                           exact pa_nil
             case e44 =>
               exact pss_nil
           case r43 =>
             refine' pss_cons ?s67 ?r67
             case s67 =>
               refine' ps_if ?c68 ?b68 ?e68
               case c68 => exact (PW.pt (pw_and (pt_cmpR op_eq (pv 10) pe_str (nomark _)) (pw_and1 (pt_cmpR op_eq (pv 2) (pv 11) (nomark _)))))
               case b68 =>
                 refine' pss_one ?s69
                 case s69 =>
                   refine' ps_ret ?v70
                   case v70 =>
                     refine' pe_tup ?a71
                     case a71 =>
                       refine' pa_cons ?x72 ?y72 ?z72
                       case z72 => exact rfl
                       case x72 =>
                         exact pe_str
                       case y72 =>
                         refine' pa_cons ?x73 ?y73 ?z73
                         case z73 => exact rfl
                         case x73 =>
                           refine' pe_tup ?a74
                           case a74 =>
                             refine' pa_cons ?x75 ?y75 ?z75
                             case z75 => exact rfl
                             case x75 =>
                               exact pe_str
                             case y75 =>
                               refine' pa_cons ?x76 ?y76 ?z76
                               case z76 => exact rfl
                               case x76 =>
                                 exact (pv 11)
                               case y76 =>
                                 exact pa_nil
                         case y73 =>
                           exact pa_nil
               case e68 =>
                 exact pss_nil
             case r67 =>
               refine' pss_cons ?s77 ?r77
               case s77 =>
                 refine' ps_if ?c78 ?b78 ?e78
                 case c78 => exact (PW.pt (pw_or (pt_cmpR op_eq (pv 10) pe_str (nomark _)) (pw_or1 (pt_cmpR op_eq (pv 10) pe_str (nomark _)))))
                 case b78 =>
                   refine' pss_cons ?s79 ?r79
                   case s79 =>
                     refine' ps_if ?c80 ?b80 ?e80
                     case c80 => exact (pt_cmpR op_eq (pv 2) pe_str (nomark _))
                     case b80 =>
                       refine' pss_one ?s81
                       case s81 =>
                         refine' ps_ret ?v82
                         case v82 =>
                           refine' pe_tup ?a83
                           case a83 =>
                             refine' pa_cons ?x84 ?y84 ?z84
                             case z84 => exact rfl
                             case x84 =>
                               exact pe_str
                             case y84 =>
                               refine' pa_cons ?x85 ?y85 ?z85
                               case z85 => exact rfl
                               case x85 =>
                                 refine' pe_tup ?a86
                                 case a86 =>
                                   refine' pa_cons ?x87 ?y87 ?z87
                                   case z87 => exact rfl
                                   case x87 =>
                                     exact pe_str
                                   case y87 =>
                                     refine' pa_cons ?x88 ?y88 ?z88
                                     case z88 => exact rfl
                                     case x88 =>
                                       exact pe_str
                                     case y88 =>
                                       exact pa_nil
                               case y85 =>
                                 exact pa_nil
                     case e80 =>
                       exact pss_nil
                   case r79 =>
                     refine' pss_cons ?s89 ?r89
                     case s89 =>
                       refine' ps_if ?c90 ?b90 ?e90
                       case c90 => exact (pt_cmpR op_in_str (pv 2) (pv 3) rfl)
                       case b90 =>
                         refine' pss_one ?s91
                         case s91 =>
                           refine' ps_ret ?v92
                           case v92 =>
                             refine' pe_tup ?a93
                             case a93 =>
                               refine' pa_cons ?x94 ?y94 ?z94
                               case z94 => exact rfl
                               case x94 =>
                                 exact pe_str
                               case y94 =>
                                 refine' pa_cons ?x95 ?y95 ?z95
                                 case z95 => exact rfl
                                 case x95 =>
                                   refine' pe_tup ?a96
                                   case a96 =>
                                     refine' pa_cons ?x97 ?y97 ?z97
                                     case z97 => exact rfl
                                     case x97 =>
                                       exact pe_str
                                     case y97 =>
                                       refine' pa_cons ?x98 ?y98 ?z98
                                       case z98 => exact rfl
                                       case x98 =>
                                         exact pe_str
                                       case y98 =>
                                         exact pa_nil
                                 case y95 =>
                                   exact pa_nil
                       case e90 =>
                         exact pss_nil
                     case r89 =>
                       refine' pss_cons ?s99 ?r99
                       case s99 =>
                         refine' ps_if ?c100 ?b100 ?e100
                         case c100 => exact (PW.pt (pw_and (pt_val (pv 8)) (pw_and1 (pt_cmpR op_eq (pv 2) pe_str (nomark _)))))
                         case b100 =>
                           refine' pss_one ?s101
                           case s101 =>
                             refine' ps_ret ?v102
                             case v102 =>
                               refine' pe_tup ?a103
                               case a103 =>
                                 refine' pa_cons ?x104 ?y104 ?z104
                                 case z104 => exact rfl
                                 case x104 =>
                                   exact pe_str
                                 case y104 =>
                                   refine' pa_cons ?x105 ?y105 ?z105
                                   case z105 => exact rfl
                                   case x105 =>
                                     refine' pe_tup ?a106
                                     case a106 =>
                                       refine' pa_cons ?x107 ?y107 ?z107
                                       case z107 => exact rfl
                                       case x107 =>
                                         exact pe_str
                                       case y107 =>
                                         refine' pa_cons ?x108 ?y108 ?z108
                                         case z108 => exact rfl
                                         case x108 =>
                                           exact pe_str
                                         case y108 =>
                                           exact pa_nil
                                   case y105 =>
                                     exact pa_nil
                         case e100 =>
                           exact pss_nil
                       case r99 =>
                         refine' pss_one ?s109
                         case s109 =>
                           refine' ps_ret ?v110
                           case v110 =>
                             refine' pe_tup ?a111
                             case a111 =>
                               refine' pa_cons ?x112 ?y112 ?z112
                               case z112 => exact rfl
                               case x112 =>
                                 exact pe_str
                               case y112 =>
                                 refine' pa_cons ?x113 ?y113 ?z113
                                 case z113 => exact rfl
                                 case x113 =>
                                   exact pe_str
                                 case y113 =>
                                   exact pa_nil
                 case e78 =>
                   exact pss_nil
               case r77 =>
                 refine' pss_one ?s114
                 case s114 =>
                   exact (ps_ret (pe_call (k := 1) G__law_open (hr.mono (by decide)) rfl T.g__law_open T.F__law_open.kp T.b__law_open .nil pass0 (pa_cons (pv 0) (pa_cons (pv 1) (pa_cons (pv 2) pa_nil)))))
   refine ⟨_, rfl, t, _, rfl, ht, rfl, _, _, rfl, _, _, rfl, _, _, rfl, _, _, rfl, _, _, rfl, _, _, rfl, _, _, rfl, rfl, ?_⟩
   refine ⟨_, rfl, s, _, rfl, hs, rfl, _, _, rfl, _, _, rfl, rfl, ?_⟩
   refine ⟨_, rfl, rfl, _, rfl, ite2 (fun (h0 : isS w (Str.ofString "within") = true) => ?_) (fun (h0 : ¬ isS w (Str.ofString "within") = true) => ?_)⟩
   · refine ⟨_, rfl, _, rfl, _, _, rfl, rfl, _, rfl, ite2 (fun (h1 : inS c f = true) => ?_) (fun (h1 : ¬ inS c f = true) => ?_)⟩
     · exact ⟨_, rfl, mk_go (by rw [sm_within h0]; unfold mWithin; rw [if_pos h1]) kf_skip k⟩
     refine ⟨_, rfl, _, rfl, rfl, _, rfl, ite2 (fun (h2 : isS (sg c) u = true) => ?_) (fun (h2 : ¬ isS (sg c) u = true) => ?_)⟩
     · refine ⟨(by show 2 ≤ sizeLine; decide), fun t1 g1 => ⟨_, rfl, (by show 2 ≤ sizeLine; decide), fun t2 g2 => ⟨(by show 2 ≤ sizeLine; decide), fun l gl => ?_⟩⟩⟩
       have z1 := same_new (o := HO.tup [.str (Str.ofString "behind"), .str (Str.ofString "")]) g1
       have z2 := same_new (o := HO.tup [.str (Str.ofString "doubt"), .str u]) g2
       have z3 := same_new (o := HO.lst [.ref t1, .ref t2]) gl
       have y1 : SqT K _ t1 [.str (Str.ofString "behind"), .str (Str.ofString "")] := sqt_mono (z2.trans z3) (SqT.of upd_same)
       have y2 : SqT K _ t2 [.str (Str.ofString "doubt"), .str u] := sqt_mono z3 (SqT.of upd_same)
       refine ⟨_, rfl, .inr ⟨b1, rfl, ?_⟩⟩
       cases b1 with
       | true => exact ⟨l, _, _, .ref t2, rfl, rfl, SqL.of upd_same, rfl, mk_goR (by rw [sm_within h0]; unfold mWithin; rw [if_neg h1, if_pos h2]; rfl) kf_skip ((z1.trans z2).trans z3) y2 k⟩
       | false => exact ⟨l, _, _, .ref t1, rfl, rfl, SqL.of upd_same, rfl, mk_goR (by rw [sm_within h0]; unfold mWithin; rw [if_neg h1, if_pos h2]; rfl) kf_skip ((z1.trans z2).trans z3) y1 k⟩
     refine ⟨_, rfl, rfl, _, rfl, ite2 (fun (h3 : isS (sg c) (Str.ofString "\n") = true) => ?_) (fun (h3 : ¬ isS (sg c) (Str.ofString "\n") = true) => ?_)⟩
     · refine ⟨_, rfl, _, rfl, ite2 (fun (h4 : (!b2) = true) => ?_) (fun (h4 : ¬ (!b2) = true) => ?_)⟩
       · exact mk_flt (by rw [sm_within h0]; unfold mWithin; rw [if_neg h1, if_neg h2, if_pos h3, if_pos h4]) k
       cases isS_eq h0
       exact ⟨_, rfl, mk_goR (by rw [sm_within h0]; unfold mWithin; rw [if_neg h1, if_neg h2, if_pos h3, if_neg h4]) kf_put (Same.refl _) hs k⟩
     cases isS_eq h0
     refine iteF ?_
     exact ⟨_, rfl, mk_goR (by rw [sm_within h0]; unfold mWithin; rw [if_neg h1, if_neg h2, if_neg h3]) kf_put (Same.refl _) hs k⟩
   have n0 := h0
   clear h0
   refine ⟨_, rfl, rfl, _, rfl, ite2 (fun (h0 : isS w (Str.ofString "freed") = true) => ?_) (fun (h0 : ¬ isS w (Str.ofString "freed") = true) => ?_)⟩
   · refine ⟨_, rfl, rfl, _, rfl, ite2 (fun (h1 : isS (sg c) (Str.ofString "\n") = true) => ?_) (fun (h1 : ¬ isS (sg c) (Str.ofString "\n") = true) => ?_)⟩
     · refine ⟨_, rfl, _, rfl, ite2 (fun (h2 : (!b2) = true) => ?_) (fun (h2 : ¬ (!b2) = true) => ?_)⟩
       · exact mk_flt (by rw [sm_freed h0]; unfold mFreed; rw [if_pos h1, if_pos h2]) k
       refine ⟨_, rfl, (by show 2 ≤ sizeLine; decide), fun t1 g1 => ⟨(by show 2 ≤ sizeLine; decide), fun t2 g2 => ⟨(by show 2 ≤ sizeLine; decide), fun l gl => ?_⟩⟩⟩
       have z1 := same_new (o := HO.tup [.str (Str.ofString "within"), .str u]) g1
       have z2 := same_new (o := HO.tup [.str (Str.ofString "plain"), .str (Str.ofString "")]) g2
       have z3 := same_new (o := HO.lst [.ref t1, .ref t2]) gl
       have y1 : SqT K _ t1 [.str (Str.ofString "within"), .str u] := sqt_mono (z2.trans z3) (SqT.of upd_same)
       have y2 : SqT K _ t2 [.str (Str.ofString "plain"), .str (Str.ofString "")] := sqt_mono z3 (SqT.of upd_same)
       refine ⟨_, rfl, rfl, .inr ⟨isS u (Str.ofString ""), rfl, ?_⟩⟩
       have ex : stepM p q f b1 b2 b3 b4 w u c = mFreedX u := by rw [sm_freed h0]; unfold mFreed; rw [if_pos h1, if_neg h2]
       unfold mFreedX at ex
       cases hu9 : isS u (Str.ofString "") with
       | true => exact ⟨l, _, _, .ref t2, rfl, rfl, SqL.of upd_same, rfl, mk_goR (by rw [ex, if_pos hu9]) kf_put ((z1.trans z2).trans z3) y2 k⟩
       | false => exact ⟨l, _, _, .ref t1, rfl, rfl, SqL.of upd_same, rfl, mk_goR (by rw [ex, if_neg (by rw [hu9]; decide)]) kf_put ((z1.trans z2).trans z3) y1 k⟩
     refine iteF ?_
     refine ⟨_, rfl, (by show 2 ≤ sizeLine; decide), fun t1 g1 => ⟨(by show 2 ≤ sizeLine; decide), fun t2 g2 => ⟨(by show 2 ≤ sizeLine; decide), fun l gl => ?_⟩⟩⟩
     have z1 := same_new (o := HO.tup [.str (Str.ofString "within"), .str u]) g1
     have z2 := same_new (o := HO.tup [.str (Str.ofString "plain"), .str (Str.ofString "")]) g2
     have z3 := same_new (o := HO.lst [.ref t1, .ref t2]) gl
     have y1 : SqT K _ t1 [.str (Str.ofString "within"), .str u] := sqt_mono (z2.trans z3) (SqT.of upd_same)
     have y2 : SqT K _ t2 [.str (Str.ofString "plain"), .str (Str.ofString "")] := sqt_mono z3 (SqT.of upd_same)
     refine ⟨_, rfl, rfl, .inr ⟨isS u (Str.ofString ""), rfl, ?_⟩⟩
     have ex : stepM p q f b1 b2 b3 b4 w u c = mFreedX u := by rw [sm_freed h0]; unfold mFreed; rw [if_neg h1]
     unfold mFreedX at ex
     cases hu9 : isS u (Str.ofString "") with
     | true => exact ⟨l, _, _, .ref t2, rfl, rfl, SqL.of upd_same, rfl, mk_goR (by rw [ex, if_pos hu9]) kf_put ((z1.trans z2).trans z3) y2 k⟩
     | false => exact ⟨l, _, _, .ref t1, rfl, rfl, SqL.of upd_same, rfl, mk_goR (by rw [ex, if_neg (by rw [hu9]; decide)]) kf_put ((z1.trans z2).trans z3) y1 k⟩
   have n1 := h0
   clear h0
   refine ⟨_, rfl, rfl, _, rfl, ite2 (fun (h0 : isS w (Str.ofString "doubt") = true) => ?_) (fun (h0 : ¬ isS w (Str.ofString "doubt") = true) => ?_)⟩
   · refine ⟨_, rfl, _, rfl, rfl, _, rfl, ite2 (fun (h1 : isS (sg c) u = true) => ?_) (fun (h1 : ¬ isS (sg c) u = true) => ?_)⟩
     · exact ⟨_, rfl, mk_go (by rw [sm_doubt h0]; unfold mDoubt; rw [if_pos h1]) kf_put k⟩
     refine ⟨_, rfl, rfl, _, rfl, iteBt h0 (iteT ?_)⟩
     refine ⟨_, rfl, rfl, _, rfl, ite2 (fun (g1 : isS (sg c) (Str.ofString "\n") = true) => ?_) (fun (g1 : ¬ isS (sg c) (Str.ofString "\n") = true) => ?_)⟩
     · exact mk_go (by rw [sm_doubt h0]; unfold mDoubt mBehind; rw [if_neg h1, if_pos g1]) kf_end k
     refine ⟨_, rfl, _, rfl, _, _, rfl, rfl, _, rfl, ite2 (fun (g2 : inS c p = true) => ?_) (fun (g2 : ¬ inS c p = true) => ?_)⟩
     · exact mk_go (by rw [sm_doubt h0]; unfold mDoubt mBehind; rw [if_neg h1, if_neg g1, if_pos g2]) kf_part k
     refine ⟨_, rfl, _, rfl, ite2 (fun (g3 : b3 = true) => ?_) (fun (g3 : ¬ b3 = true) => ?_)⟩
     · refine ⟨_, rfl, rfl, _, rfl, ite2 (fun (g4 : isS (sg c) (Str.ofString " ") = true) => ?_) (fun (g4 : ¬ isS (sg c) (Str.ofString " ") = true) => ?_)⟩
       · exact mk_go (by rw [sm_doubt h0]; unfold mDoubt mBehind; rw [if_neg h1, if_neg g1, if_neg g2, if_pos g4, if_pos g3]) kf_skip k
       exact mk_flt (by rw [sm_doubt h0]; unfold mDoubt mBehind; rw [if_neg h1, if_neg g1, if_neg g2, if_neg g4]) k
     refine iteF ?_
     exact mk_flt (by rw [sm_doubt h0]; unfold mDoubt mBehind; rw [if_neg h1, if_neg g1, if_neg g2]; by_cases g4 : isS (sg c) (Str.ofString " ") = true <;> simp only [g4, g3, if_true, if_false, Bool.false_eq_true]) k
   refine iteF ?_
   refine ⟨_, rfl, rfl, _, rfl, iteBf (no_of h0) ?_⟩
   refine ⟨_, rfl, rfl, _, rfl, ite2 (fun (h9 : isS w (Str.ofString "behind") = true) => ?_) (fun (h9 : ¬ isS w (Str.ofString "behind") = true) => ?_)⟩
   · refine ⟨_, rfl, rfl, _, rfl, ite2 (fun (g1 : isS (sg c) (Str.ofString "\n") = true) => ?_) (fun (g1 : ¬ isS (sg c) (Str.ofString "\n") = true) => ?_)⟩
     · exact mk_go (by rw [sm_behind h9]; unfold mBehind; rw [if_pos g1]) kf_end k
     refine ⟨_, rfl, _, rfl, _, _, rfl, rfl, _, rfl, ite2 (fun (g2 : inS c p = true) => ?_) (fun (g2 : ¬ inS c p = true) => ?_)⟩
     · exact mk_go (by rw [sm_behind h9]; unfold mBehind; rw [if_neg g1, if_pos g2]) kf_part k
     refine ⟨_, rfl, _, rfl, ite2 (fun (g3 : b3 = true) => ?_) (fun (g3 : ¬ b3 = true) => ?_)⟩
     · refine ⟨_, rfl, rfl, _, rfl, ite2 (fun (g4 : isS (sg c) (Str.ofString " ") = true) => ?_) (fun (g4 : ¬ isS (sg c) (Str.ofString " ") = true) => ?_)⟩
       · exact mk_go (by rw [sm_behind h9]; unfold mBehind; rw [if_neg g1, if_neg g2, if_pos g4, if_pos g3]) kf_skip k
       exact mk_flt (by rw [sm_behind h9]; unfold mBehind; rw [if_neg g1, if_neg g2, if_neg g4]) k
     refine iteF ?_
     exact mk_flt (by rw [sm_behind h9]; unfold mBehind; rw [if_neg g1, if_neg g2]; by_cases g4 : isS (sg c) (Str.ofString " ") = true <;> simp only [g4, g3, if_true, if_false, Bool.false_eq_true]) k
   refine ⟨_, rfl, _, rfl, _, rfl, t, s, w, u, c, p, q, f, b1, b2, b3, b4, rfl, ht, hs, fun v H2 s2 r => k v H2 s2 ?_⟩
   rw [sm_open (no_of n0) (no_of n1) (no_of h0) (no_of h9)]
   exact r
def sp__law_near (K : PySem.W.Frag) : Sp := fun vs H Q _ => ∃ (t : Addr) (n : Int) (x : Cho), vs = [.ref t, .int n] ∧ H t = some (.tup (sevC x)) ∧ GdC x ∧ ∀ t2 (y : Cho) H', GdC y → H' t2 = some (.tup (sevC y)) → Same H H' → Q (.ref t2) H'
theorem ok__law_near : FnOk P w K mg base CX0 1 f__law_near fd__law_near ["_law_told_here", "_law_number_here"] (sp__law_near K) := by
 refine T.F__law_near.ok sc__law_near (fun vs H Q E h => ?_) (fun cdv A outer s H vs Q E hr h => ?_)
 · obtain ⟨t, n, x, rfl, _⟩ := h; rfl
 · have hu := hu_of hr
   have hu0 := hr.units0
   obtain ⟨t, n, x, rfl, ht, g, k⟩ := h
   refine ⟨_, (pss_cons (ps_set (i := 2) sc__law_near.nd rfl (by first | exact Or.inl rfl | exact Or.inr rfl) (pe_callTy (callK_list_of K rfl) rfl T.no_list (by decide +kernel) (pa_cons (pv 0) pa_nil)))
     (pss_cons (ps_set (i := 3) sc__law_near.nd rfl (by first | exact Or.inl rfl | exact Or.inr rfl) (pe_op op_mod (pv 1) pe_int))
     (pss_cons (ps_if (pt_cmpR op_lt (pv 3) pe_int (nomark _)) (pss_one (ps_asg (pe_not (pe_ix (ixK_list K rfl) (pv 2) (pe_op op_add pe_int (pv 3)) (fun _ _ => rfl))) (pg_sub (pv 2) (pe_op op_add pe_int (pv 3)) set_list))) pss_nil)
     (pss_cons (ps_if (pt_cmpR op_eq (pv 3) pe_int (nomark _)) (pss_one (ps_asg (peK_bm K rfl PySem.F.plainAttrs_str PySem.F.slot_str_join PySem.F.type_str_join (mtK_join K rfl) pe_str (pa_cons (pe_listrevT rfl rfl T.no_list rfl T.no_reversed (pa_cons (pe_ix (ixK_tup K rfl) (pv 0) pe_int (fun _ _ => rfl)) pa_nil)) pa_nil)) (pg_sub (pv 2) pe_int set_list))) pss_nil)
     (pss_cons (ps_if (pt_cmpR op_eq (pv 3) pe_int (nomark _)) (pss_one (ps_asg pe_str (pg_sub (pv 2) pe_int set_list))) pss_nil)
     (pss_cons (ps_if (pt_cmpR op_eq (pv 3) pe_int (nomark _)) (pss_one (ps_asg pe_str (pg_sub (pv 2) pe_int set_list))) pss_nil)
     (pss_one (ps_ret (pe_callTy (callK_tuple_of K rfl) rfl T.no_tuple (by decide +kernel) (pa_cons (pv 2) pa_nil)))))))))), ?_⟩
   refine ⟨_, rfl, t, _, rfl, .inr (SqT.of ht), fun l hl => ?_⟩
   have s1 := same_new (o := HO.lst (sevC x)) hl
   have h1 : (upd H l (.lst (sevC x))) l = some (.lst (sevC x)) := upd_same
   generalize upd H l (.lst (sevC x)) = H1 at s1 h1 ⊢
   refine ⟨_, rfl, _, _, rfl, rfl, (by show (0 : Int) < 7; decide), ?_⟩
   have w0 := Int.emod_nonneg n (show (7 : Int) ≠ 0 by decide)
   have w1 := Int.emod_lt_of_pos n (show (0 : Int) < 7 by decide)
   dsimp only [gName]
   generalize n % 7 = w at w0 w1 ⊢
   refine seq_split (t := tIfS _ _ _) (fun σ' H' => Same H H' ∧ σ' = [some (.ref t), some (.int n), some (.ref l), some (.int w)] ∧ ∃ y : Cho, GdC y ∧ H' l = some (.lst (sevC y))) ?_ (fun go => ?_)
   rotate_left
   · refine ⟨_, rfl, _, _, rfl, rfl, _, rfl, ite2 (fun h4 => ?_) (fun _ => go _ _ ⟨s1, rfl, x, g, h1⟩)⟩
     have h4 : w < 4 := of_decide_eq_true h4
     rcases (by omega : w = 0 ∨ w = 1 ∨ w = 2 ∨ w = 3) with rfl | rfl | rfl | rfl
     · exact ⟨_, rfl, _, rfl, _, _, rfl, rfl, l, _, _, _, rfl, rfl, SqL.of h1, rfl, x.2.2.2.a, rfl, _, rfl, _, rfl, _, _, rfl, rfl, l, _, _, 3, rfl, rfl, h1, rfl, go _ _ ⟨same_set hl s1, rfl, (x.1, x.2.1, x.2.2.1, ⟨!x.2.2.2.a, x.2.2.2.b, x.2.2.2.c, x.2.2.2.d⟩), g, upd_same⟩⟩
     · exact ⟨_, rfl, _, rfl, _, _, rfl, rfl, l, _, _, _, rfl, rfl, SqL.of h1, rfl, x.2.2.2.b, rfl, _, rfl, _, rfl, _, _, rfl, rfl, l, _, _, 4, rfl, rfl, h1, rfl, go _ _ ⟨same_set hl s1, rfl, (x.1, x.2.1, x.2.2.1, ⟨x.2.2.2.a, !x.2.2.2.b, x.2.2.2.c, x.2.2.2.d⟩), g, upd_same⟩⟩
     · exact ⟨_, rfl, _, rfl, _, _, rfl, rfl, l, _, _, _, rfl, rfl, SqL.of h1, rfl, x.2.2.2.c, rfl, _, rfl, _, rfl, _, _, rfl, rfl, l, _, _, 5, rfl, rfl, h1, rfl, go _ _ ⟨same_set hl s1, rfl, (x.1, x.2.1, x.2.2.1, ⟨x.2.2.2.a, x.2.2.2.b, !x.2.2.2.c, x.2.2.2.d⟩), g, upd_same⟩⟩
     · exact ⟨_, rfl, _, rfl, _, _, rfl, rfl, l, _, _, _, rfl, rfl, SqL.of h1, rfl, x.2.2.2.d, rfl, _, rfl, _, rfl, _, _, rfl, rfl, l, _, _, 6, rfl, rfl, h1, rfl, go _ _ ⟨same_set hl s1, rfl, (x.1, x.2.1, x.2.2.1, ⟨x.2.2.2.a, x.2.2.2.b, x.2.2.2.c, !x.2.2.2.d⟩), g, upd_same⟩⟩
   rintro σ' H2 ⟨s2, rfl, x2, g2, h2⟩
   have a1 := g2.p1; have a2 := g2.p3; have a3 := g2.q2; have a4 := g2.f2
   have c1 := g.p1; have c2 := g.p3
   refine seq_split (t := tIfS _ _ _) (fun σ' H' => Same H H' ∧ σ' = [some (.ref t), some (.int n), some (.ref l), some (.int w)] ∧ ∃ y : Cho, GdC y ∧ H' l = some (.lst (sevC y))) ?_ (fun go => ?_)
   rotate_left
   · refine ⟨_, rfl, rfl, _, rfl, ite2 (fun _ => ?_) (fun _ => go _ _ ⟨s2, rfl, x2, g2, h2⟩)⟩
     have ht2 := s2 _ _ ht
     have r1 := rev_len x.1
     refine ⟨rfl, _, rfl, t, _, _, _, rfl, rfl, SqT.of ht2, rfl, _, rfl, Nat.le_trans c2 (by decide), fun l2 hl2 => ?_⟩
     have z2 := same_new (o := HO.lst (x.1.cps.toList.reverse.map fun c => V.str (sg c))) hl2
     have q2 : (upd H2 l2 (HO.lst (x.1.cps.toList.reverse.map fun c => V.str (sg c)))) l2 = some (.lst ((x.1.cps.toList.reverse.map sg).map V.str)) := by rw [List.map_map]; exact upd_same
     have h3 := z2 _ _ h2
     generalize upd H2 l2 (HO.lst (x.1.cps.toList.reverse.map fun c => V.str (sg c))) = H3 at z2 q2 h3 ⊢
     refine ⟨_, l2, x.1.cps.toList.reverse.map sg, rfl, rfl, SqL.of q2, ?_, ?_⟩
     · rw [sgs_sum, em_len, List.length_reverse, Array.length_toList]
       show x.1.length + _ * 0 ≤ _
       omega
     rw [join_signs]
     exact ⟨_, rfl, l, _, _, 0, rfl, rfl, h3, rfl, go _ _ ⟨same_set hl (s2.trans z2), rfl, (revS x.1, x2.2), ⟨rev_sg g.gp, g2.gq, g2.gf, by show 1 ≤ (revS x.1).length; omega, by show (revS x.1).length ≤ 3; omega, a3, a4⟩, upd_same⟩⟩
   rintro σ' H5 ⟨s5, rfl, x5, g5, h5⟩
   have d1 := g5.p1; have d2 := g5.p3; have d3 := g5.q2; have d4 := g5.f2
   refine seq_split (t := tIfS _ _ _) (fun σ' H' => Same H H' ∧ σ' = [some (.ref t), some (.int n), some (.ref l), some (.int w)] ∧ ∃ y : Cho, GdC y ∧ H' l = some (.lst (sevC y))) ?_ (fun go => ?_)
   rotate_left
   · refine ⟨_, rfl, rfl, _, rfl, ite2 (fun _ => ?_) (fun _ => go _ _ ⟨s5, rfl, x5, g5, h5⟩)⟩
     exact ⟨_, rfl, l, _, _, 1, rfl, rfl, h5, rfl, go _ _ ⟨same_set hl s5, rfl, (x5.1, Str.ofString "", x5.2.2), ⟨g5.gp, em_sg, g5.gf, d1, d2, by show (Str.ofString "").length ≤ 2; rw [em_len]; omega, d4⟩, upd_same⟩⟩
   rintro σ' H6 ⟨s6, rfl, x6, g6, h6⟩
   have e1 := g6.p1; have e2 := g6.p3; have e3 := g6.q2; have e4 := g6.f2
   refine seq_split (t := tIfS _ _ _) (fun σ' H' => Same H H' ∧ σ' = [some (.ref t), some (.int n), some (.ref l), some (.int w)] ∧ ∃ y : Cho, GdC y ∧ H' l = some (.lst (sevC y))) ?_ (fun go => ?_)
   rotate_left
   · refine ⟨_, rfl, rfl, _, rfl, ite2 (fun _ => ?_) (fun _ => go _ _ ⟨s6, rfl, x6, g6, h6⟩)⟩
     exact ⟨_, rfl, l, _, _, 2, rfl, rfl, h6, rfl, go _ _ ⟨same_set hl s6, rfl, (x6.1, x6.2.1, Str.ofString "", x6.2.2.2), ⟨g6.gp, g6.gq, em_sg, e1, e2, e3, by show (Str.ofString "").length ≤ 2; rw [em_len]; omega⟩, upd_same⟩⟩
   rintro σ' H7 ⟨s7, rfl, x7, g7, h7⟩
   exact ⟨_, rfl, l, _, rfl, .inl ⟨SqL.of h7, fun t2 ht2 => k t2 x7 _ g7 upd_same (s7.trans (same_new ht2))⟩⟩
def sp__law_others (K : PySem.W.Frag) : Sp := fun vs H Q _ => ∃ (a t : Addr) (ns : List Int) (n0 m : Int) (x : Cho), vs = [.ref a, .ref t, .int n0, .int m] ∧ SqL K H a (ns.map V.int) ∧ ns.length ≤ 63 ∧ H t = some (.tup (sevC x)) ∧ GdC x ∧ 0 ≤ n0 ∧ n0 ≤ 100 ∧ 0 ≤ m ∧ m ≤ 10 ∧ ∀ l xs cs H', H l = none → H' l = some (.lst xs) → Tps H' xs cs → (∀ c ∈ cs, GdC c) → (cs.length : Int) ≤ m → Same H H' → Q (.ref l) H'
theorem ok__law_others : FnOk P w K mg base CX0 4 f__law_others fd__law_others ["_law_script", "_law_told_here", "_law_first", "_law_many"] (sp__law_others K) := by
 have G__law_cell_at : FnOk P w K mg base CX0 1 f__law_cell_at fd__law_cell_at ["_law_script", "_law_k"] (sp__law_cell_at K) := ok__law_cell_at T
 have G__law_near : FnOk P w K mg base CX0 1 f__law_near fd__law_near ["_law_told_here", "_law_number_here"] (sp__law_near K) := ok__law_near T
 have G__law_number : FnOk P w K mg base CX0 2 f__law_number fd__law_number ["_law_cell", "_law_salt"] sp__law_number := ok__law_number T
 have G__law_told : FnOk P w K mg base CX0 3 f__law_told fd__law_told ["_law_cell"] sp__law_told := ok__law_told T
 refine T.F__law_others.ok sc__law_others (fun vs H Q E h => ?_) (fun cdv A outer s H vs Q E hr h => ?_)
 · obtain ⟨a, t, ns, n0, m, x, rfl, _⟩ := h; rfl
 · have hu := hu_of hr
   have hu0 := hr.units0
   obtain ⟨a, t, ns, n0, m, x, rfl, hS, hns, ht, g, hn0, hn1, hm0, hm1, k⟩ := h
   refine ⟨_, (pss_cons (ps_set (i := 4) sc__law_others.nd rfl (by first | exact Or.inl rfl | exact Or.inr rfl) (pe_lst pa_nil))
     (pss_cons (ps_for PassesOwn.never rfl (pi_range1 rfl T.no_range (pa_cons (pv 3) pa_nil)) (pg_name (i := 5) sc__law_others.nd rfl (by first | exact Or.inl rfl | exact Or.inr rfl))
     (pss_cons (ps_set (i := 6) sc__law_others.nd rfl (by first | exact Or.inl rfl | exact Or.inr rfl) (pe_call (k := 2) G__law_number (hr.mono (by decide)) rfl T.g__law_number T.F__law_number.kp T.b__law_number .nil pass0 (pa_cons (pe_call (k := 1) G__law_cell_at (hr.mono (by decide)) rfl T.g__law_cell_at T.F__law_cell_at.kp T.b__law_cell_at .nil pass0 (pa_cons (pv 0) (pa_cons (pe_op op_add (pv 2) (pv 5)) pa_nil))) (pa_cons (pe_op op_add pe_int (pe_op op_mul pe_int (pv 5))) pa_nil))))
     (pss_one (ps_if (pt_cmpR op_eq (pe_op op_mod (pv 6) pe_int) pe_int (nomark _)) (pss_one (ps_expr (peK_bm K rfl PySem.F.plainAttrs_list PySem.F.slot_list_append PySem.F.type_list_append mt_append (pv 4) (pa_cons (pe_call (k := 3) G__law_told (hr.mono (by decide)) rfl T.g__law_told T.F__law_told.kp T.b__law_told .nil pass0 (pa_cons (pe_op op_add (pe_op op_mul pe_int (pe_op op_pow pe_int pe_int)) (pe_op op_mul pe_int (pe_op op_fdiv (pv 6) pe_int))) pa_nil)) pa_nil)))) (pss_one (ps_expr (peK_bm K rfl PySem.F.plainAttrs_list PySem.F.slot_list_append PySem.F.type_list_append mt_append (pv 4) (pa_cons (pe_call (k := 1) G__law_near (hr.mono (by decide)) rfl T.g__law_near T.F__law_near.kp T.b__law_near .nil pass0 (pa_cons (pv 1) (pa_cons (pe_op op_fdiv (pv 6) pe_int) pa_nil))) pa_nil))))))))
     (pss_one (ps_ret (pv 4))))), ?_⟩
   refine ⟨(by show 0 ≤ sizeLine; decide), fun l hl => ?_⟩
   have s0 := same_new (o := HO.lst []) hl
   have q0 := upd_same (H := H) (a := l) (o := HO.lst [])
   generalize upd H l (HO.lst []) = H0 at s0 q0 ⊢
   refine ⟨_, rfl, m, rfl, by omega, by omega, ?_⟩
   refine for_range (fun i σ J => Same H J ∧ ∃ (xs : List V) (cs : List Cho) (v1 v2 : Option V), σ = [some (.ref a), some (.ref t), some (.int n0), some (.int m), some (.ref l), v1, v2] ∧ J l = some (.lst xs) ∧ Tps J xs cs ∧ (∀ c ∈ cs, GdC c) ∧ cs.length ≤ i) ⟨s0, [], [], none, none, rfl, q0, .nil, (fun _ z => nomatch z), Nat.le_refl _⟩ ?_ ?_
   · rintro i σ J hi ⟨sJ, xs, cs, v1, v2, rfl, hx, tp, gs, hcl⟩
     have hxl := tp.length
     have hil : i < 10 := by omega
     have fin : ∀ (tt : Addr) (y : Cho) (J2 : Hp), Same J J2 → J2 tt = some (.tup (sevC y)) → GdC y → J2 l = some (.lst xs) ∧ xs.length < sizeLine ∧ Same H (upd J2 l (.lst (xs ++ [.ref tt]))) ∧ Tps (upd J2 l (.lst (xs ++ [.ref tt]))) (xs ++ [.ref tt]) (cs ++ [y]) ∧ (∀ c ∈ cs ++ [y], GdC c) ∧ (cs ++ [y]).length ≤ i + 1 := fun tt y J2 s2 hy gy => by
       have hx2 := s2 _ _ hx
       refine ⟨hx2, Nat.lt_of_le_of_lt (show xs.length ≤ 100 by omega) (by decide), same_set hl (sJ.trans s2), Tps.butL hx2 (paired_app (Tps.mono s2 tp) (.cons ⟨tt, rfl, hy⟩ .nil)), fun c hc => ?_, by rw [List.length_append]; show _ + 1 ≤ _; omega⟩
       rcases List.mem_append.mp hc with z | z
       · exact gs c z
       · rw [List.mem_singleton.mp z]; exact gy
     dsimp only [gName]
     refine ⟨_, rfl, _, rfl, _, rfl, _, _, rfl, rfl, _, _, _, rfl, sJ.seq hS, (by omega), fun zz => ⟨_, rfl, _, _, rfl, rfl, .inl ⟨(by omega), (by omega)⟩, _, _, rfl, rfl, _, _, rfl, (by omega), (by omega), fun n => ?_⟩⟩
     dsimp only [gName]
     refine ⟨_, rfl, _, _, rfl, rfl, (by show (0 : Int) < 3; decide), rfl, _, rfl, ite2 (fun _ => ?_) (fun _ => ?_)⟩
     · refine ⟨_, rfl, .inl ⟨rfl, ⟨_, SqL.of hx⟩⟩, _, _, rfl, rfl, ⟨(by omega), ⟨(by omega), (by omega)⟩⟩, _, _, rfl, rfl, .inl ⟨(by omega), (by omega)⟩, _, rfl, _, _, rfl, rfl, ⟨(by omega), (by omega)⟩, _, _, rfl, rfl, .inl ⟨(by omega), (by omega)⟩, _, _, rfl, rfl, _, rfl, fun t2 p' q' f' c1 c2 c3 c4 J2 g2 ht2 h2 s2 => ⟨_, _, _, rfl, rfl, (s2 _ _ hx), ?_, (same_set hl (sJ.trans s2)), ?_⟩⟩
       · exact (fin t2 (p', q', f', ⟨c1, c2, c3, c4⟩) J2 s2 h2 g2).2.1
       obtain ⟨_, _, _, z1, z2, z3⟩ := fin t2 (p', q', f', ⟨c1, c2, c3, c4⟩) J2 s2 h2 g2
       exact ⟨_, _, _, _, rfl, upd_same, z1, z2, z3⟩
     · refine ⟨_, rfl, .inl ⟨rfl, ⟨_, SqL.of hx⟩⟩, _, rfl, _, rfl, _, _, rfl, rfl, ⟨(by omega), (by omega)⟩, _, _, _, rfl, (sJ _ _ ht), g, fun t2 y J2 g2 h2 s2 => ⟨_, _, _, rfl, rfl, (s2 _ _ hx), ?_, (same_set hl (sJ.trans s2)), ?_⟩⟩
       · exact (fin t2 y J2 s2 h2 g2).2.1
       obtain ⟨_, _, _, z1, z2, z3⟩ := fin t2 y J2 s2 h2 g2
       exact ⟨_, _, _, _, rfl, upd_same, z1, z2, z3⟩
   · rintro σ J ⟨sJ, xs, cs, v1, v2, rfl, hx, tp, gs, hcl⟩
     exact ⟨_, rfl, k l xs cs J hl hx tp gs (by omega) sJ⟩
def sp__law_signs (K : PySem.W.Frag) : Sp := fun vs H Q _ => ∃ (l a : Addr) (ls xs : List V) (cs : List Cho) (t : List (List Str)), vs = [.ref l, .ref a] ∧ H l = some (.lst ls) ∧ Tps H ls cs ∧ (∀ c ∈ cs, GdC c) ∧ cs.length ≤ 20 ∧ H a = some (.lst xs) ∧ Paired (RelRow H) xs t ∧ TabOk t ∧ ∀ (F : Str) H', cellOk F → 1 ≤ F.length → F.length ≤ 1000 → Same H H' → Q (.str F) H'
theorem ok__law_signs : FnOk P w K mg base CX0 1 f__law_signs fd__law_signs ["_law_tolds", "_law_table"] (sp__law_signs K) := by
 refine T.F__law_signs.ok sc__law_signs (fun vs H Q E h => ?_) (fun cdv A outer s H vs Q E hr h => ?_)
 · obtain ⟨l, a, ls, xs, cs, t, rfl, _⟩ := h; rfl
 · have hu := hu_of hr
   have hu0 := hr.units0
   obtain ⟨l, a, ls, xs, cs, t, rfl, hl, tp, gs, hcl, ha, pr, tok, k⟩ := h
   have tl := tp.length
   have pl := pr.length
   have hn := tok.n
   have hsum := tok.sum
   refine ⟨_, (pss_cons (ps_set (i := 2) sc__law_signs.nd rfl (by first | exact Or.inl rfl | exact Or.inr rfl) (pe_op op_add_str (pe_op op_add_str (peK_bm K rfl PySem.F.plainAttrs_str PySem.F.slot_str_join PySem.F.type_str_join (mtK_join K rfl) pe_str (pa_cons (pe_comp rfl (show CompScope ["_law_tolds", "_law_table", "_law_some_here", "_law_found", "_law_sign"] (defScope s__law_signs) ["_law_told_here"] 1 [] _ from ⟨rfl, by decide +kernel, by decide +kernel, by decide +kernel, by decide +kernel, rfl, rfl, by decide +kernel⟩) (piK_list K rfl (pv 0)) (fun _ _ _ _ => (pg_name (i := 0) (show (["_law_told_here"] : List Str).Nodup by decide +kernel) rfl (by first | exact Or.inl rfl | exact Or.inr rfl))) (fun _ _ _ _ => pif_nil) (fun _ _ _ _ => (pe_op op_add_str (pe_op op_add_str (pe_ix (ixK_tup K rfl) (pv 0) pe_int (fun _ _ => rfl)) (pe_ix (ixK_tup K rfl) (pv 0) pe_int (fun _ _ => rfl))) (pe_ix (ixK_tup K rfl) (pv 0) pe_int (fun _ _ => rfl))))) pa_nil)) pe_str) (peK_bm K rfl PySem.F.plainAttrs_str PySem.F.slot_str_join PySem.F.type_str_join (mtK_join K rfl) pe_str (pa_cons (pe_comp rfl (show CompScope ["_law_tolds", "_law_table", "_law_some_here", "_law_found", "_law_sign"] (defScope s__law_signs) ["_law_row"] 1 [] _ from ⟨rfl, by decide +kernel, by decide +kernel, by decide +kernel, by decide +kernel, rfl, rfl, by decide +kernel⟩) (piK_list K rfl (pv 1)) (fun _ _ _ _ => (pg_name (i := 0) (show (["_law_row"] : List Str).Nodup by decide +kernel) rfl (by first | exact Or.inl rfl | exact Or.inr rfl))) (fun _ _ _ _ => pif_nil) (fun _ _ _ _ => (peK_bm K rfl PySem.F.plainAttrs_str PySem.F.slot_str_join PySem.F.type_str_join (mtK_join K rfl) pe_str (pa_cons (pv 0) pa_nil)))) pa_nil))))
     (pss_cons (ps_set (i := 3) sc__law_signs.nd rfl (by first | exact Or.inl rfl | exact Or.inr rfl) pe_str)
     (pss_cons (ps_for PassesOwn.never rfl (pi_str (pv 2)) (pg_name (i := 4) sc__law_signs.nd rfl (by first | exact Or.inl rfl | exact Or.inr rfl))
     (pss_one (ps_if (pt_cmpR op_notIn_str (pv 4) (pv 3) rfl) (pss_one (ps_set (i := 3) sc__law_signs.nd rfl (by first | exact Or.inl rfl | exact Or.inr rfl) (pe_op op_add_str (pv 3) (pv 4)))) pss_nil)))
     (pss_one (ps_ret (pv 3)))))), ?_⟩
   refine ⟨rfl, _, rfl, l, rfl, ⟨_, SqL.of hl⟩, fun D hD => ?_⟩
   refine comp_list (K := K) (a := l) (xs := ls) (fun i ws τ J => (∃ v, τ = [v]) ∧ Same H J ∧ J D = some (.lst ws) ∧ ∃ zs : List Str, ws = zs.map V.str ∧ zs.length = i ∧ ∀ z ∈ zs, cellOk z ∧ z.length ≤ 7) ⟨⟨_, rfl⟩, same_new hD, upd_same, [], rfl, rfl, fun z q => nomatch q⟩ (fun i ws τ J _ p => ⟨SqL.of (p.2.1 _ _ hl), p.2.2.1⟩) ?_ ?_
   · rintro i e ws τ J hi ⟨⟨v, rfl⟩, sJ, hJ, zs, rfl, hzl, hzs⟩
     have hil := (List.getElem?_eq_some_iff.mp hi).1
     obtain ⟨x, hx, tt, rfl, htt⟩ := paired_get tp i e hi
     have g := gs x (List.mem_of_getElem? hx)
     have hp3 := g.p3; have hq2 := g.q2; have hf2 := g.f2
     have hS : SqT K J tt (sevC x) := SqT.of (sJ _ _ htt)
     have e7 : ((x.1 ++ x.2.1) ++ x.2.2.1).length ≤ 7 := by rw [app_len, app_len]; omega
     have co : cellOk ((x.1 ++ x.2.1) ++ x.2.2.1) := cell_app (cell_app (fun c h => .inr (g.gp.pr c h)) (fun c h => .inr (g.gq.pr c h))) (fun c h => .inr (g.gf.pr c h))
     refine gyes ?_
     refine ⟨_, rfl, tt, _, _, _, rfl, rfl, hS, rfl, _, rfl, tt, _, _, _, rfl, rfl, hS, rfl, _, _, rfl, rfl, Nat.le_trans (show x.1.length + x.2.1.length ≤ 5 by omega) (by decide), _, rfl, tt, _, _, _, rfl, rfl, hS, rfl, _, _, rfl, rfl, ?_, hJ, ?_, ⟨_, rfl⟩, same_set hD sJ, upd_same, zs ++ [(x.1 ++ x.2.1) ++ x.2.2.1], ?_, ?_, ?_⟩
     · rw [app_len]; exact Nat.le_trans (show x.1.length + x.2.1.length + x.2.2.1.length ≤ 7 by omega) (by decide)
     · rw [List.length_map]; exact Nat.lt_of_le_of_lt (show zs.length ≤ 20 by omega) (by decide)
     · rw [List.map_append]; rfl
     · rw [List.length_append, hzl]; rfl
     · intro z hz
       rcases List.mem_append.mp hz with h | h
       · exact hzs z h
       · rw [List.mem_singleton.mp h]; exact ⟨co, e7⟩
   rintro ws τ J ⟨⟨v, rfl⟩, sJ, hJ, zs, rfl, hzl, hzs⟩
   have j1 := catS_le (r := zs) (m := 7) fun z hz => (hzs z hz).2
   have j2 : cellOk (catS zs) := catS_ok fun z hz => (hzs z hz).1
   have j3 := each_sum zs
   have szb : 100000 ≤ sizeLine := by decide
   have nl2 : (Str.ofString "\n ").length = 2 := by decide +kernel
   have nlo : cellOk (Str.ofString "\n ") := by show ∀ c ∈ _, _; decide +kernel
   have j4 := app_len (catS zs) (Str.ofString "\n ")
   refine ⟨_, D, zs, rfl, rfl, SqL.of hJ, by rw [em_len]; omega, ?_⟩
   rw [join_em]
   refine ⟨_, _, rfl, rfl, by omega, ?_⟩
   have A1 : cellOk (catS zs ++ Str.ofString "\n ") := cell_app j2 nlo
   have A2 : (catS zs ++ Str.ofString "\n ").length ≤ 142 ∧ 2 ≤ (catS zs ++ Str.ofString "\n ").length := by omega
   generalize catS zs ++ Str.ofString "\n " = zA at A1 A2 ⊢
   have haJ := sJ _ _ ha
   refine ⟨rfl, _, rfl, a, rfl, ⟨_, SqL.of haJ⟩, fun E hE => ?_⟩
   refine comp_list (K := K) (a := a) (xs := xs) (fun i ws τ G => (∃ v, τ = [v]) ∧ Same J G ∧ G E = some (.lst ws) ∧ ws = ((t.take i).map catS).map V.str) ⟨⟨_, rfl⟩, same_new hE, upd_same, rfl⟩ (fun i ws τ G _ p => ⟨SqL.of (p.2.1 _ _ haJ), p.2.2.1⟩) ?_ ?_
   · rintro i e ws τ G hi ⟨⟨v, rfl⟩, sG, hG, rfl⟩
     have hil := (List.getElem?_eq_some_iff.mp hi).1
     obtain ⟨r, hr, b, rfl, hb⟩ := paired_get pr i e hi
     have hrs := row_sum (List.mem_of_getElem? hr)
     have hrl := (tok.rows r (List.mem_of_getElem? hr)).hi
     have hes := each_sum r
     have hcs := catS_sum r
     refine gyes ?_
     refine ⟨rfl, _, rfl, _, b, r, rfl, rfl, SqL.of ((sJ.trans sG) _ _ hb), by rw [em_len]; omega, hG, ?_, ⟨_, rfl⟩, same_set hE sG, upd_same, ?_⟩
     · rw [List.length_map, List.length_map, List.length_take]
       exact Nat.lt_of_le_of_lt (show _ ≤ 100 by omega) (by decide)
     · rw [join_em, take_snocG hr, List.map_append, List.map_append]; rfl
   rintro ws τ G ⟨⟨v, rfl⟩, sG, hG, rfl⟩
   rw [pl, List.take_of_length_le (Nat.le_refl _)] at hG
   have k1 := cat_total t
   have k2 := each_sum (t.map catS)
   have k3 : cellOk (catS (t.map catS)) := catS_ok fun c hc => by
     obtain ⟨r, hr, rfl⟩ := List.mem_map.mp hc
     exact catS_ok (tok.rows r hr).ok
   refine ⟨_, E, t.map catS, rfl, rfl, SqL.of hG, by rw [em_len, List.length_map]; omega, ?_⟩
   rw [join_em]
   have j6 := app_len zA (catS (t.map catS))
   refine ⟨_, _, rfl, rfl, by omega, ?_⟩
   have B1 : cellOk (zA ++ catS (t.map catS)) := cell_app A1 k3
   have B2 : 2 ≤ (zA ++ catS (t.map catS)).length ∧ (zA ++ catS (t.map catS)).length ≤ 600 := by omega
   generalize zA ++ catS (t.map catS) = z at B1 B2 ⊢
   refine ⟨_, rfl, _, rfl, ?_⟩
   have hzl : z.cps.toList.length = z.length := by rw [Array.length_toList]; rfl
   refine for_str (fun i σ J2 => J2 = G ∧ ∃ (F : Str) (v : Option V), σ = [some (.ref l), some (.ref a), some (.str z), some (.str F), v] ∧ cellOk F ∧ F.length ≤ i ∧ (1 ≤ i → 1 ≤ F.length)) ⟨rfl, _, none, rfl, (by show ∀ c ∈ _, _; decide +kernel), by decide, fun q => absurd q (by decide)⟩ ?_ ?_
   · rintro i c σ J2 hi ⟨rfl, F, v, rfl, oF, hF, h1⟩
     have hil := (List.getElem?_eq_some_iff.mp hi).1
     have e1 : (F ++ (⟨#[c]⟩ : Str)).length = F.length + 1 := app_len _ _
     refine ⟨_, rfl, _, rfl, _, _, rfl, rfl, _, rfl, ite2 (fun hA => ?_) (fun hA => ?_)⟩
     · refine ⟨_, rfl, _, rfl, _, _, rfl, rfl, ?_, rfl, _, _, rfl, ?_, ?_, fun _ => ?_⟩
       · exact Nat.le_trans (show F.length + 1 ≤ 1000 by omega) (by decide)
       · exact cell_app oF (fun d hd => by rw [List.mem_singleton.mp (show d ∈ [c] from hd)]; exact B1 c (List.mem_of_getElem? hi))
       · show (F ++ (⟨#[c]⟩ : Str)).length ≤ _; rw [e1]; omega
       · show 1 ≤ (F ++ (⟨#[c]⟩ : Str)).length; rw [e1]; omega
     · refine ⟨rfl, F, _, rfl, oF, by omega, fun _ => ?_⟩
       by_cases h0 : 1 ≤ F.length
       · exact h0
       · exfalso
         refine hA ((away_iff F c).mpr fun hm => ?_)
         have : 0 < F.cps.toList.length := List.length_pos_of_mem hm
         rw [Array.length_toList] at this
         exact h0 this
   · rintro σ J2 ⟨rfl, F, v, rfl, oF, hF, h1⟩
     exact ⟨_, rfl, k F _ oF (h1 (by omega)) (by omega) (sJ.trans sG)⟩
def sp__law_tokens (K : PySem.W.Frag) : Sp := fun vs H Q _ => ∃ (a : Addr) (xs : List V) (t : List (List Str)), vs = [.ref a] ∧ H a = some (.lst xs) ∧ Paired (RelRow H) xs t ∧ TabOk t ∧ ∀ (l : Addr) (ys : List V) H', H l = none → H' l = some (.lst ys) → Paired (RelT K H') ys (tokTab t) → Same H H' → Q (.ref l) H'
theorem ok__law_tokens : FnOk P w K mg base CX0 1 f__law_tokens fd__law_tokens ["_law_table"] (sp__law_tokens K) := by
 refine T.F__law_tokens.ok sc__law_tokens (fun vs H Q E h => ?_) (fun cdv A outer s H vs Q E hr h => ?_)
 · obtain ⟨a, xs, t, rfl, _⟩ := h; rfl
 · have hu := hu_of hr
   have hu0 := hr.units0
   obtain ⟨a, xs, t, rfl, ha, tr, g, k⟩ := h
   have hlx := tr.length
   refine ⟨_, (pss_cons (ps_set (i := 1) sc__law_tokens.nd rfl (by first | exact Or.inl rfl | exact Or.inr rfl) (pe_lst pa_nil))
     (pss_cons (ps_for PassesOwn.never rfl (piK_list K rfl (pv 0)) (pg_name (i := 2) sc__law_tokens.nd rfl (by first | exact Or.inl rfl | exact Or.inr rfl))
     (pss_cons (ps_for PassesOwn.never rfl (pi_range1 rfl T.no_range (pa_cons (pe_callB (callK_len_seq K rfl) rfl T.no_len (by decide +kernel) (pa_cons (pv 2) pa_nil)) pa_nil)) (pg_name (i := 3) sc__law_tokens.nd rfl (by first | exact Or.inl rfl | exact Or.inr rfl))
     (pss_cons (ps_if (pt_cmpR op_gt (pv 3) pe_int (nomark _)) (pss_one (ps_expr (peK_bm K rfl PySem.F.plainAttrs_list PySem.F.slot_list_append PySem.F.type_list_append mt_append (pv 1) (pa_cons (pe_tup (pa_cons pe_str (pa_cons pe_str pa_nil))) pa_nil)))) pss_nil)
     (pss_one (ps_for PassesOwn.never rfl (pi_str (pe_ix (ixK_list K rfl) (pv 2) (pv 3) (fun _ _ => rfl))) (pg_name (i := 4) sc__law_tokens.nd rfl (by first | exact Or.inl rfl | exact Or.inr rfl))
     (pss_one (ps_expr (peK_bm K rfl PySem.F.plainAttrs_list PySem.F.slot_list_append PySem.F.type_list_append mt_append (pv 1) (pa_cons (pe_tup (pa_cons pe_str (pa_cons (pv 4) pa_nil))) pa_nil))))))))
     (pss_one (ps_expr (peK_bm K rfl PySem.F.plainAttrs_list PySem.F.slot_list_append PySem.F.type_list_append mt_append (pv 1) (pa_cons (pe_tup (pa_cons pe_str (pa_cons pe_str pa_nil))) pa_nil))))))
     (pss_one (ps_ret (pv 1))))), ?_⟩
   refine ⟨by decide, fun l hl => ?_⟩
   have s0 := same_new (o := HO.lst []) hl
   refine ⟨_, rfl, a, rfl, ⟨_, SqL.of (s0 _ _ ha)⟩, ?_⟩
   refine for_list (K := K) (a := a) (xs := xs) (fun i σ H2 => (∃ v1 v2 v3, σ = [some (.ref a), some (.ref l), v1, v2, v3]) ∧ Same H H2 ∧ ∃ ys, H2 l = some (.lst ys) ∧ Paired (RelT K H2) ys (tokTab (t.take i))) ⟨⟨_, _, _, rfl⟩, s0, [], upd_same, .nil⟩ (fun i σ H2 _ q => SqL.of (q.2.1 _ _ ha)) ?_ ?_
   · rintro i e σ H2 hi ⟨⟨v1, v2, v3, rfl⟩, s2, ys, hy, hp⟩
     obtain ⟨r, hr, b, rfl, hb⟩ := paired_get tr i e hi
     have hrt := List.mem_of_getElem? hr
     have b1 := tab_take g i
     have hs := Nat.le_trans (row_sum hrt) g.sum
     have hrh := (g.rows r hrt).hi
     have blen : ∀ n, n ≤ r.length → (tokC r n).length ≤ 420 := fun n hn => by
       have := tokC_len r n hn
       have h2 : (lens (r.take n)).sum ≤ (lens r).sum := by
         unfold lens; rw [List.map_take]; exact take_sum_le _ _
       omega
     have hbm := s2 _ _ hb
     refine ⟨_, rfl, b, _, rfl, .inl (SqL.of hbm), _, rfl, by rw [List.length_map]; omega, by rw [List.length_map]; omega, ?_⟩
     rw [List.length_map]
     refine for_range (fun j σ H3 => (∃ v2 v3, σ = [some (.ref a), some (.ref l), some (.ref b), v2, v3]) ∧ Same H H3 ∧ ∃ ws, H3 l = some (.lst ws) ∧ Paired (RelT K H3) ws (tokTab (t.take i) ++ tokC r j)) ⟨⟨_, _, rfl⟩, s2, ys, hy, by show Paired _ _ (_ ++ []); rw [List.append_nil]; exact hp⟩ ?_ ?_
     · rintro j σ H3 hj ⟨⟨v2, v3, rfl⟩, s3, ws, hw, hpw⟩
       have hjr : j < r.length := by omega
       have bj := blen j (by omega)
       have hwl := hpw.length
       rw [List.length_append] at hwl
       dsimp only [gName]
       refine seq_split (t := tIfS _ _ _) (fun σ' H' => (∃ v3, σ' = [some (.ref a), some (.ref l), some (.ref b), some (.int (0 + (j : Int))), v3]) ∧ Same H H' ∧ ∃ ws, H' l = some (.lst ws) ∧ Paired (RelT K H') ws (tokTab (t.take i) ++ (tokC r j ++ (if j = 0 then [] else [partT])))) ?_ (fun go => ?_)
       rotate_left
       · refine ⟨_, rfl, _, _, rfl, rfl, _, rfl, ite2 (fun h => ?_) (fun h => ?_)⟩
         · have h0 : (0 : Int) < 0 + j := of_decide_eq_true h
           refine ⟨_, rfl, .inl ⟨rfl, _, SqL.of hw⟩, (by show 2 ≤ sizeLine; decide), fun u hu5 => ?_⟩
           have su := same_new (o := HO.tup [.str (Str.ofString "part"), .str (Str.ofString "")]) hu5
           have hwu := su _ _ hw
           refine ⟨l, ws, _, rfl, rfl, hwu, Nat.lt_of_le_of_lt (show ws.length ≤ 3000 by omega) (by decide), go _ _ ⟨⟨_, rfl⟩, same_set hl (s3.trans su), _, upd_same, ?_⟩⟩
           rw [if_neg (by omega), ← List.append_assoc]
           exact paired_imp (fun a b h => RelT.but hwu h) (paired_snoc (paired_imp (fun a b h => RelT.mono su h) hpw) ⟨u, rfl, SqT.of upd_same⟩)
         · have h0 : j = 0 := by
             have : ¬ (0 : Int) < 0 + j := fun q => h (decide_eq_true q)
             omega
           refine go _ _ ⟨⟨_, rfl⟩, s3, ws, hw, ?_⟩
           rw [if_pos h0, List.append_nil]
           exact hpw
       clear hw hpw s3 hwl
       rintro σ' H4 ⟨⟨v4, rfl⟩, s4, ws, hw, hpw⟩
       have hwl := hpw.length
       have hwl2 : ws.length ≤ 2100 := by
         rw [hwl, List.length_append, List.length_append]
         split
         · simp; omega
         · show _ + (_ + 1) ≤ 2100; omega
       obtain ⟨z, hz⟩ : ∃ z, r[j]? = some z := ⟨r[j], by simp [hjr]⟩
       have hz4 : z.length ≤ 400 := Nat.le_trans (cell_len (List.mem_of_getElem? hz)) hs
       have hb4 := s4 _ _ hb
       refine ⟨_, rfl, _, rfl, b, _, _, .str z, rfl, rfl, SqL.of hb4, ?_, z, rfl, ?_⟩
       · rw [Int.zero_add]; exact atI_nat (by rw [List.getElem?_map, hz]; rfl)
       refine for_str (fun n σ H5 => (∃ v4, σ = [some (.ref a), some (.ref l), some (.ref b), some (.int (0 + (j : Int))), v4]) ∧ Same H H5 ∧ ∃ zs, H5 l = some (.lst zs) ∧ Paired (RelT K H5) zs ((tokTab (t.take i) ++ (tokC r j ++ (if j = 0 then [] else [partT]))) ++ ((z.cps.toList.take n).map fun c => (Str.ofString "put", sg c)))) ⟨⟨_, rfl⟩, s4, ws, hw, by rw [List.take_zero]; show Paired _ _ (_ ++ []); rw [List.append_nil]; exact hpw⟩ ?_ ?_
       · rintro n d σ H5 hn ⟨⟨v5, rfl⟩, s5, zs, h5, hp5⟩
         have hnl : n < z.cps.toList.length := (List.getElem?_eq_some_iff.mp hn).1
         rw [Array.length_toList] at hnl
         have hnl : n < z.length := hnl
         have hzl := hp5.length
         rw [List.length_append, ← hwl, List.length_map, List.length_take] at hzl
         refine ⟨_, rfl, .inl ⟨rfl, _, SqL.of h5⟩, _, rfl, (by show 2 ≤ sizeLine; decide), fun u hu5 => ?_⟩
         have s6 := same_new (o := HO.tup [.str (Str.ofString "put"), .str (sg d)]) hu5
         have h56 := s6 _ _ h5
         refine ⟨l, zs, _, rfl, rfl, h56, Nat.lt_of_le_of_lt (show zs.length ≤ 3000 by omega) (by decide), ⟨_, rfl⟩, same_set hl (s5.trans s6), _, upd_same, ?_⟩
         rw [take_snocG hn, List.map_append, ← List.append_assoc]
         exact paired_imp (fun a b h => RelT.but h56 h) (paired_snoc (paired_imp (fun a b h => RelT.mono s6 h) hp5) ⟨u, rfl, SqT.of upd_same⟩)
       · rintro σ H5 ⟨⟨v5, rfl⟩, s5, zs, h5, hp5⟩
         rw [List.take_of_length_le (Nat.le_refl _)] at hp5
         refine ⟨⟨_, _, rfl⟩, s5, zs, h5, ?_⟩
         rw [tokC_succ hz]
         rw [List.append_assoc, List.append_assoc] at hp5
         exact hp5
     · rintro σ H3 ⟨⟨v2, v3, rfl⟩, s3, ws, hw, hpw⟩
       have bj := blen r.length (Nat.le_refl _)
       have hwl := hpw.length
       have hpw : Paired (RelT K H3) ws (tokTab (t.take i) ++ tokC r r.length) := hpw
       rw [List.length_append] at hwl
       refine ⟨_, rfl, .inl ⟨rfl, _, SqL.of hw⟩, (by show 2 ≤ sizeLine; decide), fun u hu5 => ?_⟩
       have su := same_new (o := HO.tup [.str (Str.ofString "end"), .str (Str.ofString "")]) hu5
       have hwu := su _ _ hw
       have hbl : ws.length ≤ 2100 := by
         have : ws.length = (tokTab (t.take i)).length + (tokC r r.length).length := hpw.length.trans (List.length_append ..)
         omega
       refine ⟨l, ws, _, rfl, rfl, hwu, Nat.lt_of_le_of_lt hbl (by decide), ⟨_, _, _, rfl⟩, same_set hl (s3.trans su), _, upd_same, ?_⟩
       rw [take_snocG hr, tokTab_snoc]
       unfold tokRow
       rw [← List.append_assoc]
       exact paired_imp (fun a b h => RelT.but hwu h) (paired_snoc (paired_imp (fun a b h => RelT.mono su h) hpw) ⟨u, rfl, SqT.of upd_same⟩)
   · rintro σ H2 ⟨⟨v1, v2, v3, rfl⟩, s2, ys, hy, hp⟩
     rw [hlx, List.take_of_length_le (Nat.le_refl _)] at hp
     exact ⟨_, rfl, k l ys H2 hl hy hp s2⟩
def sp__law_led (K : PySem.W.Frag) : Sp := fun vs H Q _ => ∃ (tt l : Addr) (ys : List V) (ts : List (Str × Str)) (mk : Mrk) (v : V) (c : Nat) (p q f : Str) (b1 b2 b3 b4 : Bool), vs = [.ref tt, .ref l, v, .str (sg c)] ∧ H tt = some (.tup (seven p q f b1 b2 b3 b4)) ∧ H l = some (.lst ys) ∧ Paired (RelT K H) ys ts ∧ MrkAt K H mk v ∧ StOk q mk.1.1 mk.1.2 ∧ mk.2 ≤ ts.length ∧ ∀ v' H', Same H H' → mrkV K (mrkM p q f b1 b2 b3 b4 ts mk c) H' v' → Q v' H'
theorem ok__law_led : FnOk P w K mg base CX0 3 f__law_led fd__law_led ["_law_told_here", "_law_tokens_here", "_law_mark", "_law_sign"] (sp__law_led K) := by
 have G__law_step : FnOk P w K mg base CX0 2 f__law_step fd__law_step ["_law_told_here", "_law_state", "_law_sign"] (sp__law_step K) := ok__law_step T
 refine T.F__law_led.ok sc__law_led (fun vs H Q E h => ?_) (fun cdv A outer s H vs Q E hr h => ?_)
 · obtain ⟨tt, l, ys, ts, mk, v, c, p, q, f, b1, b2, b3, b4, rfl, _⟩ := h; rfl
 · have hu := hu_of hr
   have hu0 := hr.units0
   obtain ⟨tt, l, ys, ts, mk, v, c, p, q, f, b1, b2, b3, b4, rfl, htt, hl, tp, hv, hst, hmn, k⟩ := h
   have hu64 := hr.units
   obtain ⟨b, s, rfl, hb, hs⟩ := hv
   have tl := tp.length
   unfold mrkM liveStep at k
   refine ⟨_, (pss_cons (ps_asg (pe_call (k := 2) G__law_step (hr.mono (by decide)) rfl T.g__law_step T.F__law_step.kp T.b__law_step .nil pass0 (pa_cons (pv 0) (pa_cons (pe_ix (ixK_tup K rfl) (pv 2) pe_int (fun _ _ => rfl)) (pa_cons (pv 3) pa_nil)))) (pgK_tup K rfl 2 rfl (pgs_cons (pg_name (i := 4) sc__law_led.nd rfl (by first | exact Or.inl rfl | exact Or.inr rfl)) (pgs_cons (pg_name (i := 5) sc__law_led.nd rfl (by first | exact Or.inl rfl | exact Or.inr rfl)) pgs_nil))))
     (pss_cons (ps_if (PW.pt (pw_or (pt_cmpR op_eq (pv 4) pe_str (nomark _)) (pw_or1 (PW.pt (pw_and (pt_cmpR (opK_in_seq K rfl) (pe_ix (ixK_tup K rfl) (pv 5) pe_int (fun _ _ => rfl)) (pe_lst (pa_cons pe_str (pa_cons pe_str pa_nil))) rfl) (pw_and (pt_cmpR op_ne (pe_ix (ixK_tup K rfl) (pv 5) pe_int (fun _ _ => rfl)) pe_str (nomark _)) (pw_and1 (pt_cmpR op_in_str (pe_ix (ixK_tup K rfl) (pv 5) pe_int (fun _ _ => rfl)) (pe_ix (ixK_tup K rfl) (pv 0) pe_int (fun _ _ => rfl)) rfl)))))))) (pss_one (ps_ret pe_non)) pss_nil)
     (pss_cons (ps_if (pt_cmpR op_eq (pv 4) pe_str (nomark _)) (pss_one (ps_ret (pe_tup (pa_cons (pv 5) (pa_cons (pe_ix (ixK_tup K rfl) (pv 2) pe_int (fun _ _ => rfl)) pa_nil))))) pss_nil)
     (pss_cons (ps_set (i := 6) sc__law_led.nd rfl (by first | exact Or.inl rfl | exact Or.inr rfl) (pe_ix (ixK_list K rfl) (pe_lst (pa_cons (pe_tup (pa_cons (pv 4) (pa_cons pe_str pa_nil))) (pa_cons (pe_tup (pa_cons pe_str (pa_cons (pv 3) pa_nil))) pa_nil))) (pe_callTy call_int1 rfl T.no_int (by decide +kernel) (pa_cons (pe_cmpR op_eq (pv 4) pe_str (nomark _)) pa_nil)) (fun _ _ => rfl)))
     (pss_cons (ps_if (PW.pt (pw_or (pt_cmpR op_eq (pe_ix (ixK_tup K rfl) (pv 2) pe_int (fun _ _ => rfl)) (pe_callB (callK_len_seq K rfl) rfl T.no_len (by decide +kernel) (pa_cons (pv 1) pa_nil)) (nomark _)) (pw_or1 (pt_cmpR (op_neN (YL _ _ K) rfl (hn0 hu64)) (pe_ix (ixK_list K rfl) (pv 1) (pe_ix (ixK_tup K rfl) (pv 2) pe_int (fun _ _ => rfl)) (fun _ _ => rfl)) (pv 6) (nomark _))))) (pss_one (ps_ret pe_non)) pss_nil)
     (pss_one (ps_ret (pe_tup (pa_cons (pv 5) (pa_cons (pe_op op_add (pe_ix (ixK_tup K rfl) (pv 2) pe_int (fun _ _ => rfl)) pe_int) pa_nil)))))))))), ?_⟩
   refine ⟨_, rfl, _, rfl, b, _, _, _, rfl, rfl, hb, rfl, _, rfl, tt, s, mk.1.1, mk.1.2, c, p, q, f, b1, b2, b3, b4, rfl, SqT.of htt, hs, fun v5 H5 s5 r => ?_⟩
   have hb5 := sqt_mono s5 hb
   have htt5 := SqT.of (K := K) (s5 _ _ htt)
   have hl5 := s5 _ _ hl
   have tp5 := toks_mono s5 tp
   cases hr5 : stepM p q f b1 b2 b3 b4 mk.1.1 mk.1.2 c with
   | flt e =>
     rw [hr5] at r k
     obtain ⟨a, rfl, ha⟩ := r
     have k : ∀ v' H', Same H H' → mrkV K none H' v' → Q v' H' := k
     refine ⟨a, _, rfl, ha, rfl, _, _, rfl, _, _, rfl, rfl, ?_⟩
     exact ⟨_, rfl, rfl, _, rfl, iteBt (isS_self _) (iteT (k _ _ s5 rfl))⟩
   | go kd w3 u3 =>
     rw [hr5] at r k
     obtain ⟨hk, a, b2, rfl, ha, hb2⟩ := r
     have hst3 := step_ok hst hr5
     have k : ∀ v' H', Same H H' → mrkV K (match (if liveM f w3 u3 = true then some (kd, w3, u3) else none) with | none => none | some (k, w, u) => (match cntM ts mk.2 k (sg c) with | none => none | some n => some ((w, u), n))) H' v' → Q v' H' := k
     refine ⟨a, _, rfl, ha, rfl, _, _, rfl, _, _, rfl, rfl, ?_⟩
     dsimp only [gName]
     refine seq_split (t := tIfS _ _ _) (fun σ' H' => Same H5 H' ∧ liveM f w3 u3 = true ∧ σ' = [some (.ref tt), some (.ref l), some (.ref b), some (.str (sg c)), some (.str kd), some (.ref b2), none]) ?_ (fun go => ?_)
     rotate_left
     · refine ⟨_, rfl, rfl, _, rfl, iteBf hk ?_⟩
       refine ⟨_, rfl, _, _, _, _, rfl, rfl, hb2, rfl, (by show (2 : Nat) ≤ sizeLine; decide), fun m hm => ⟨_, _, rfl, .inl (SqL.of upd_same), rfl, rfl, _, rfl, ?_⟩⟩
       have s6 := same_new (o := HO.lst [.str (Str.ofString "within"), .str (Str.ofString "freed")]) hm
       have hb26 := sqt_mono s6 hb2
       have htt6 := sqt_mono s6 htt5
       generalize upd H5 m (HO.lst [.str (Str.ofString "within"), .str (Str.ofString "freed")]) = H6 at s6 hb26 htt6 ⊢
       rcases hst3 with ⟨rfl, hw⟩ | ⟨d, hd, rfl, hw⟩
       · have hlv : liveM f w3 (Str.ofString "") = true := by unfold liveM; rw [if_pos (isS_self _)]
         refine ite2 (fun _ => ?_) (fun _ => iteF (go _ _ ⟨s6, hlv, rfl⟩))
         exact ⟨_, rfl, b2, _, _, _, rfl, rfl, hb26, rfl, rfl, _, rfl, rdN rfl (iteF (go _ _ ⟨s6, hlv, rfl⟩))⟩
       · have hne : ¬ V.str (sg d) = V.str (Str.ofString "") := fun z => sg_ne d (by rw [V.str.inj z]; exact isS_self _)
         have hin : ∀ {w : Str}, w = Str.ofString "within" ∨ w = Str.ofString "freed" → liveM f w (sg d) = !(inS d f) := fun hw => by
           unfold liveM
           rcases hw with rfl | rfl
           · rw [if_neg (sg_ne d), if_neg (ns (by decide +kernel))]; rfl
           · rw [if_neg (sg_ne d), if_neg (ns (by decide +kernel))]; rfl
         have rest : (w3 = Str.ofString "within" ∨ w3 = Str.ofString "freed") → ∀ hx : inS d f = true ∨ inS d f = false, True := fun _ _ => trivial
         rcases hw with rfl | rfl | rfl
         · refine iteBt (by decide +kernel) ⟨_, rfl, b2, _, _, _, rfl, rfl, hb26, rfl, rfl, _, rfl, rdNn hne ⟨_, rfl, b2, _, _, _, rfl, rfl, hb26, rfl, _, rfl, tt, _, _, _, rfl, rfl, htt6, rfl, _, _, rfl, rfl, _, rfl, rdB (fun (hx : inS d f = true) => ?_) (fun (hx : inS d f = false) => go _ _ ⟨s6, by rw [hin (.inl rfl), hx]; rfl, rfl⟩)⟩⟩
           rw [hin (.inl rfl), hx] at k
           exact k _ _ (s5.trans s6) rfl
         · exact iteBf (by decide +kernel) (iteF (go _ _ ⟨s6, by unfold liveM; rw [if_neg (sg_ne d), if_pos (isS_self _)], rfl⟩))
         · refine iteBt (by decide +kernel) ⟨_, rfl, b2, _, _, _, rfl, rfl, hb26, rfl, rfl, _, rfl, rdNn hne ⟨_, rfl, b2, _, _, _, rfl, rfl, hb26, rfl, _, rfl, tt, _, _, _, rfl, rfl, htt6, rfl, _, _, rfl, rfl, _, rfl, rdB (fun (hx : inS d f = true) => ?_) (fun (hx : inS d f = false) => go _ _ ⟨s6, by rw [hin (.inr rfl), hx]; rfl, rfl⟩)⟩⟩
           rw [hin (.inr rfl), hx] at k
           exact k _ _ (s5.trans s6) rfl
     rintro σ' H6 ⟨s6, hlv, rfl⟩
     rw [if_pos hlv] at k
     have k : ∀ v' H', Same H H' → mrkV K (match cntM ts mk.2 kd (sg c) with | none => none | some n => some ((w3, u3), n)) H' v' → Q v' H' := k
     unfold cntM at k
     have s56 := s5.trans s6
     have hb6 := sqt_mono s6 hb5
     have hb26 := sqt_mono s6 hb2
     refine ⟨_, rfl, rfl, _, rfl, ite2 (fun (h1 : isS kd (Str.ofString "skip") = true) => ?_) (fun (h1 : ¬ isS kd (Str.ofString "skip") = true) => ?_)⟩
     · rw [if_pos h1] at k
       refine ⟨_, rfl, _, rfl, b, _, _, _, rfl, rfl, hb6, rfl, (by show 2 ≤ sizeLine; decide), fun t ht => ?_⟩
       exact k _ _ (s56.trans (same_new ht)) ⟨t, b2, rfl, SqT.of upd_same, sqt_mono (same_new ht) hb26⟩
     rw [if_neg h1] at k
     refine ⟨_, rfl, (by show (2 : Nat) ≤ sizeLine; decide), fun t1 ht1 => ⟨_, rfl, (by show (2 : Nat) ≤ sizeLine; decide), fun t2 ht2 => ⟨(by show (2 : Nat) ≤ sizeLine; decide), fun l2 hl2 => ?_⟩⟩⟩
     have e1 := same_new (o := HO.tup [.str kd, .str (Str.ofString "")]) ht1
     have e2 := same_new (o := HO.tup [.str (Str.ofString "put"), .str (sg c)]) ht2
     have e3 := same_new (o := HO.lst [.ref t1, .ref t2]) hl2
     have q1 := e3 _ _ (e2 _ _ (upd_same (H := H6) (a := t1) (o := HO.tup [.str kd, .str (Str.ofString "")])))
     have q2 := e3 _ _ (upd_same (H := upd H6 t1 (HO.tup [.str kd, .str (Str.ofString "")])) (a := t2) (o := HO.tup [.str (Str.ofString "put"), .str (sg c)]))
     have q3 := upd_same (H := upd (upd H6 t1 (HO.tup [.str kd, .str (Str.ofString "")])) t2 (HO.tup [.str (Str.ofString "put"), .str (sg c)])) (a := l2) (o := HO.lst [.ref t1, .ref t2])
     have s67 := e1.trans (e2.trans e3)
     generalize upd (upd (upd H6 t1 (HO.tup [.str kd, .str (Str.ofString "")])) t2 (HO.tup [.str (Str.ofString "put"), .str (sg c)])) l2 (HO.lst [.ref t1, .ref t2]) = H7 at q1 q2 q3 s67 ⊢
     clear e1 e2 e3
     obtain ⟨tk, htk, hat⟩ : ∃ tk, SqT K H7 tk [.str kd, .str (if isS kd (Str.ofString "put") = true then sg c else Str.ofString "")] ∧ atI [V.ref t1, .ref t2] (if isS kd (Str.ofString "put") = true then 1 else 0) = some (.ref tk) := by
       by_cases hp : isS kd (Str.ofString "put") = true
       · rw [if_pos hp, if_pos hp]
         refine ⟨t2, ?_, rfl⟩
         rw [isS_eq hp]; exact SqT.of q2
       · rw [if_neg hp, if_neg hp]; exact ⟨t1, SqT.of q1, rfl⟩
     refine ⟨_, rfl, rfl, .inr (⟨_, rfl, _, _, _, _, rfl, rfl, SqL.of q3, hat, ?_⟩)⟩
     dsimp only [gName]
     have s57 := s6.trans s67
     have hb7 := sqt_mono s57 hb5
     have hb27 := sqt_mono s57 hb2
     have hl7 := s57 _ _ hl5
     have tp7 := toks_mono s57 tp5
     have s07 := s5.trans s57
     refine ⟨_, rfl, b, _, _, _, rfl, rfl, hb7, rfl, _, rfl, l, _, rfl, .inl (SqL.of hl7), rfl, _, rfl, rd2i (fun h2 => ?_) (fun h2 => ?_)⟩
     · rw [List.getElem?_eq_none (by omega), if_neg (fun q => nomatch q)] at k
       exact iteT (k _ _ s07 rfl)
     have hlt : mk.2 < ys.length := by omega
     obtain ⟨y, hy⟩ : ∃ y, ys[mk.2]? = some y := ⟨_, List.getElem?_eq_getElem hlt⟩
     obtain ⟨⟨k1, s2⟩, ht1', a', rfl, ha'⟩ := paired_get tp7 mk.2 y hy
     have hat2 : atI ys (mk.2 : Int) = some (.ref a') := atI_nat hy
     refine ⟨_, rfl, _, rfl, b, _, _, _, rfl, rfl, hb7, rfl, l, _, _, .ref a', rfl, rfl, SqL.of hl7, hat2, _, rfl, a', tk, _, _, rfl, rfl, pair_at (P := P) (w := w) ha', pair_at (P := P) (w := w) htk, _, rfl, rd2n (fun h4 => ?_) (fun h4 => ?_)⟩
     · have h4 : ¬ (k1, s2) = (kd, if isS kd (Str.ofString "put") = true then sg c else Str.ofString "") := fun q => h4 (pairK_inj.mpr q)
       rw [ht1', if_neg (fun q => h4 (Option.some.inj q))] at k
       exact k _ _ s07 rfl
     · have h4 := pairK_inj.mp h4
       rw [ht1', if_pos (by rw [h4])] at k
       refine ⟨_, rfl, _, rfl, b, _, _, _, rfl, rfl, hb7, rfl, _, _, rfl, rfl, (by show 2 ≤ sizeLine; decide), fun t3 ht3 => ?_⟩
       exact k _ _ (s07.trans (same_new ht3)) ⟨t3, b2, rfl, SqT.of upd_same, sqt_mono (same_new ht3) hb27⟩
def sp__law_reads (K : PySem.W.Frag) : Sp := fun vs H Q _ => ∃ (tt a : Addr) (z : Str) (xs : List V) (t : List (List Str)) (x : Cho), vs = [.ref tt, .str z, .ref a] ∧ H tt = some (.tup (sevC x)) ∧ GdC x ∧ H a = some (.lst xs) ∧ Paired (RelRow H) xs t ∧ TabOk t ∧ ∀ H', Same H H' → Q (.bl (rdIs x t z)) H'
theorem ok__law_reads : FnOk P w K mg base CX0 4 f__law_reads fd__law_reads ["_law_told_here", "_law_text_here", "_law_table"] (sp__law_reads K) := by
 have G__law_led : FnOk P w K mg base CX0 3 f__law_led fd__law_led ["_law_told_here", "_law_tokens_here", "_law_mark", "_law_sign"] (sp__law_led K) := ok__law_led T
 have G__law_tokens : FnOk P w K mg base CX0 1 f__law_tokens fd__law_tokens ["_law_table"] (sp__law_tokens K) := ok__law_tokens T
 refine T.F__law_reads.ok sc__law_reads (fun vs H Q E h => ?_) (fun cdv A outer s H vs Q E hr h => ?_)
 · obtain ⟨tt, a, z, xs, t, x, rfl, _⟩ := h; rfl
 · have hu := hu_of hr
   have hu0 := hr.units0
   obtain ⟨tt, a, z, xs, t, x, rfl, htt, g, ha, pr, tok, k⟩ := h
   have hu64 := hr.units
   rw [rd_is fun r hr => (tok.rows r hr).lo] at k
   refine ⟨_, (pss_cons (ps_set (i := 3) sc__law_reads.nd rfl (by first | exact Or.inl rfl | exact Or.inr rfl) (pe_call (k := 1) G__law_tokens (hr.mono (by decide)) rfl T.g__law_tokens T.F__law_tokens.kp T.b__law_tokens .nil pass0 (pa_cons (pv 2) pa_nil)))
     (pss_cons (ps_set (i := 4) sc__law_reads.nd rfl (by first | exact Or.inl rfl | exact Or.inr rfl) (pe_tup (pa_cons (pe_tup (pa_cons pe_str (pa_cons pe_str pa_nil))) (pa_cons pe_int pa_nil))))
     (pss_cons (ps_for PassesOwn.never rfl (pi_str (pv 1)) (pg_name (i := 5) sc__law_reads.nd rfl (by first | exact Or.inl rfl | exact Or.inr rfl))
     (pss_cons (ps_set (i := 4) sc__law_reads.nd rfl (by first | exact Or.inl rfl | exact Or.inr rfl) (pe_call (k := 3) G__law_led (hr.mono (by decide)) rfl T.g__law_led T.F__law_led.kp T.b__law_led .nil pass0 (pa_cons (pv 0) (pa_cons (pv 3) (pa_cons (pv 4) (pa_cons (pv 5) pa_nil))))))
     (pss_one (ps_if (pt_cmpR op_isN (pv 4) pe_non (nomark _)) (pss_one (ps_ret pe_bl)) pss_nil))))
     (pss_one (ps_ret (pe_cmpR (op_eqN (YM _ _ K) rfl (hn1 hu64)) (pv 4) (pe_tup (pa_cons (pe_tup (pa_cons pe_str (pa_cons pe_str pa_nil))) (pa_cons (pe_callB (callK_len_seq K rfl) rfl T.no_len (by decide +kernel) (pa_cons (pv 3) pa_nil)) pa_nil))) (nomark _))))))), ?_⟩
   refine ⟨_, rfl, a, xs, t, rfl, ha, pr, tok, fun l ys H1 hl0 hl tp s1 => ?_⟩
   dsimp only [gName]
   generalize tokTab t = ts at tp k
   have tl := tp.length
   refine ⟨(by show (2 : Nat) ≤ sizeLine; decide), fun t1 ht1 => ⟨(by show (2 : Nat) ≤ sizeLine; decide), fun t2 ht2 => ?_⟩⟩
   have e1 := same_new (o := HO.tup [.str (Str.ofString "row"), .str (Str.ofString "")]) ht1
   have e2 := same_new (o := HO.tup [.ref t1, .int 0]) ht2
   have q1 := e2 _ _ (upd_same (H := H1) (a := t1) (o := HO.tup [.str (Str.ofString "row"), .str (Str.ofString "")]))
   have q2 := upd_same (H := upd H1 t1 (HO.tup [.str (Str.ofString "row"), .str (Str.ofString "")])) (a := t2) (o := HO.tup [.ref t1, .int 0])
   have s12 := e1.trans e2
   generalize upd (upd H1 t1 (HO.tup [.str (Str.ofString "row"), .str (Str.ofString "")])) t2 (HO.tup [.ref t1, .int 0]) = H2 at q1 q2 s12 ⊢
   have s02 := s1.trans s12
   have hm0 : MrkAt K H2 m0 (.ref t2) := ⟨t2, t1, rfl, SqT.of q2, SqT.of q1⟩
   refine ⟨_, rfl, _, rfl, ?_⟩
   refine for_str (fun i σ J => Same H2 J ∧ ∃ (v : V) (m : Mrk) (vs : Option V), σ = [some (.ref tt), some (.str z), some (.ref a), some (.ref l), some v, vs] ∧ MrkAt K J m v ∧ mks x.1 x.2.1 x.2.2.1 x.2.2.2.a x.2.2.2.b x.2.2.2.c x.2.2.2.d ts m0 (z.cps.toList.take i) = some m) ⟨Same.refl _, .ref t2, m0, none, rfl, hm0, rfl⟩ ?_ ?_
   · rintro i c σ J hi ⟨sJ, v, m, vs, rfl, hv, hm⟩
     have s0J := s02.trans sJ
     obtain ⟨_, hmn, hpr⟩ := mks_pr (Nat.zero_le _) hm
     have hst : StOk x.2.1 m.1.1 m.1.2 := by
       have := run_ok (p := x.1) (q := x.2.1) (f := x.2.2.1) (b1 := x.2.2.2.a) (b2 := x.2.2.2.b) (b3 := x.2.2.2.c) (b4 := x.2.2.2.d) (cs := z.cps.toList.take i) (show StOk x.2.1 (Str.ofString "row") (Str.ofString "") from .inl ⟨rfl, .inl rfl⟩)
       rw [show (runM x.1 x.2.1 x.2.2.1 x.2.2.2.a x.2.2.2.b x.2.2.2.c x.2.2.2.d (Str.ofString "row") (Str.ofString "") (z.cps.toList.take i)).2 = (m.1.1, m.1.2, none) from hpr.1] at this
       exact this
     dsimp only [gName]
     refine ⟨_, rfl, _, rfl, _, rfl, _, rfl, tt, l, ys, ts, m, v, c, x.1, x.2.1, x.2.2.1, x.2.2.2.a, x.2.2.2.b, x.2.2.2.c, x.2.2.2.d, rfl, s0J _ _ htt, (s12.trans sJ) _ _ hl, toks_mono (s12.trans sJ) tp, hv, hst, hmn, fun v' J' s' hv' => ?_⟩
     have hsn : mks x.1 x.2.1 x.2.2.1 x.2.2.2.a x.2.2.2.b x.2.2.2.c x.2.2.2.d ts m0 (z.cps.toList.take (i + 1)) = mrkM x.1 x.2.1 x.2.2.1 x.2.2.2.a x.2.2.2.b x.2.2.2.c x.2.2.2.d ts m c := by rw [take_snocG hi, mks_snoc, hm]; rfl
     dsimp only [gName]
     cases hM : mrkM x.1 x.2.1 x.2.2.1 x.2.2.2.a x.2.2.2.b x.2.2.2.c x.2.2.2.d ts m c with
     | none =>
       rw [hM] at hv'
       have hv' : v' = .non := hv'
       subst hv'
       refine ⟨_, rfl, rfl, _, rfl, iteBt rfl ?_⟩
       have kk := k J' (s0J.trans s')
       rw [hM] at hsn
       have e : mks x.1 x.2.1 x.2.2.1 x.2.2.2.a x.2.2.2.b x.2.2.2.c x.2.2.2.d ts m0 z.cps.toList = none := by
         have := mks_none (c := c) hsn (z.cps.toList.drop (i + 1))
         rw [List.take_append_drop] at this
         exact this
       rw [e, decide_eq_false (by intro q; cases q)] at kk
       exact kk
     | some m' =>
       rw [hM] at hv' hsn
       obtain ⟨b', sb', rfl, r1, r2⟩ := (show MrkAt K J' m' v' from hv')
       exact ⟨_, rfl, rfl, _, rfl, iteBf rfl ⟨sJ.trans s', .ref b', m', _, rfl, ⟨b', sb', rfl, r1, r2⟩, hsn⟩⟩
   · rintro σ J ⟨sJ, v, m, vs, rfl, hv, hm⟩
     rw [List.take_of_length_le (Nat.le_refl _)] at hm
     obtain ⟨b, sb, rfl, r1, r2⟩ := hv
     have hlJ := (s12.trans sJ) _ _ hl
     refine ⟨_, rfl, (by show (2 : Nat) ≤ sizeLine; decide), fun t3 ht3 => ⟨_, rfl, _, _, rfl, .inl (SqL.of (same_new ht3 _ _ hlJ)), (by show (2 : Nat) ≤ sizeLine; decide), fun t4 ht4 => ?_⟩⟩
     have f1 := same_new (o := HO.tup [.str (Str.ofString "row"), .str (Str.ofString "")]) ht3
     have f2 := same_new (o := HO.tup [.ref t3, .int (ys.length : Nat)]) ht4
     have f12 := f1.trans f2
     have w2 := upd_same (H := upd J t3 (HO.tup [.str (Str.ofString "row"), .str (Str.ofString "")])) (a := t4) (o := HO.tup [.ref t3, .int (ys.length : Nat)])
     have w1 := f2 _ _ (upd_same (H := J) (a := t3) (o := HO.tup [.str (Str.ofString "row"), .str (Str.ofString "")]))
     generalize upd (upd J t3 (HO.tup [.str (Str.ofString "row"), .str (Str.ofString "")])) t4 (HO.tup [.ref t3, .int (ys.length : Nat)]) = J4 at f12 w1 w2 ⊢
     have c1 : KAt (YM _ _ K) J4 (markK m) b := mark_at (P := P) (w := w) (sqt_mono f12 r1) (sqt_mono f12 r2)
     have c2 : KAt (YM _ _ K) J4 (markK ((Str.ofString "row", Str.ofString ""), ts.length)) t4 := mark_at (P := P) (w := w) (m := ((Str.ofString "row", Str.ofString ""), ts.length)) (by rw [← tl]; exact SqT.of w2) (SqT.of w1)
     refine ⟨b, t4, _, _, rfl, rfl, c1, c2, ?_⟩
     have kk := k J4 ((s02.trans sJ).trans f12)
     have ed : decide (markK m = markK ((Str.ofString "row", Str.ofString ""), ts.length)) = decide (mks x.1 x.2.1 x.2.2.1 x.2.2.2.a x.2.2.2.b x.2.2.2.c x.2.2.2.d ts m0 z.cps.toList = some ((Str.ofString "row", Str.ofString ""), ts.length)) := by
       rw [hm, Bool.eq_iff_iff, decide_eq_true_iff, decide_eq_true_iff, markK_inj]
       exact ⟨fun e => by rw [e], fun e => Option.some.inj e⟩
     rw [ed]
     exact kk
def sp__law_sole (K : PySem.W.Frag) : Sp := fun vs H Q _ => ∃ (l a : Addr) (z : Str) (ls xs : List V) (t : List (List Str)) (x : Cho) (cs : List Cho), vs = [.ref l, .str z, .ref a] ∧ H l = some (.lst ls) ∧ Tps H ls (x :: cs) ∧ (∀ c ∈ x :: cs, GdC c) ∧ H a = some (.lst xs) ∧ Paired (RelRow H) xs t ∧ TabOk t ∧ ∀ H', Same H H' → Q (.bl (soleZ x cs t z)) H'
theorem ok__law_sole : FnOk P w K mg base CX0 5 f__law_sole fd__law_sole ["_law_tolds", "_law_text_here", "_law_table"] (sp__law_sole K) := by
 have G__law_reads : FnOk P w K mg base CX0 4 f__law_reads fd__law_reads ["_law_told_here", "_law_text_here", "_law_table"] (sp__law_reads K) := ok__law_reads T
 refine T.F__law_sole.ok sc__law_sole (fun vs H Q E h => ?_) (fun cdv A outer s H vs Q E hr h => ?_)
 · obtain ⟨l, a, z, ls, xs, t, x, cs, rfl, _⟩ := h; rfl
 · have hu := hu_of hr
   have hu0 := hr.units0
   obtain ⟨l, a, z, ls, xs, t, x, cs, rfl, hl, tp, gs, ha, pr, tok, k⟩ := h
   refine ⟨_, (pss_cons (ps_if (pt_not (pt_val (pe_call (k := 4) G__law_reads (hr.mono (by decide)) rfl T.g__law_reads T.F__law_reads.kp T.b__law_reads .nil pass0 (pa_cons (pe_ix (ixK_list K rfl) (pv 0) pe_int (fun _ _ => rfl)) (pa_cons (pv 1) (pa_cons (pv 2) pa_nil)))))) (pss_one (ps_ret pe_bl)) pss_nil)
     (pss_cons (ps_for PassesOwn.never rfl (piK_list K rfl (pe_slice (slK_list K rfl) (pv 0) (po_some pe_int) po_none)) (pg_name (i := 3) sc__law_sole.nd rfl (by first | exact Or.inl rfl | exact Or.inr rfl))
     (pss_one (ps_if (pt_val (pe_call (k := 4) G__law_reads (hr.mono (by decide)) rfl T.g__law_reads T.F__law_reads.kp T.b__law_reads .nil pass0 (pa_cons (pv 3) (pa_cons (pv 1) (pa_cons (pv 2) pa_nil))))) (pss_one (ps_ret pe_bl)) pss_nil)))
     (pss_one (ps_ret pe_bl)))), ?_⟩
   cases tp with
   | @cons e0 _ ls _ h0 tp =>
   obtain ⟨tt, rfl, htt⟩ := h0
   have hat0 : atI (V.ref tt :: ls) ((0 : Nat) : Int) = some (.ref tt) := atI_nat rfl
   refine ⟨_, rfl, l, _, _, _, rfl, rfl, SqL.of hl, hat0, _, rfl, _, rfl, tt, a, z, xs, t, x, rfl, htt, gs x (List.mem_cons_self ..), ha, pr, tok, fun H1 s1 => ⟨_, rfl, ?_⟩⟩
   cases hx : rdIs x t z with
   | false =>
     refine iteT ?_
     have kk := k H1 s1
     unfold soleZ at kk
     rw [hx, Bool.false_and] at kk
     exact kk
   | true =>
   refine iteF ?_
   unfold soleZ at k
   rw [hx, Bool.true_and] at k
   have hl1 := s1 _ _ hl
   refine ⟨_, rfl, _, rfl, l, _, rfl, SqL.of hl1, fun l2 hl2 => ?_⟩
   rw [show cutV (V.ref tt :: ls) (some 1) none = ls from cut_drop (V.ref tt :: ls) 1 (by rw [List.length_cons]; omega)]
   (have s2 := same_new (o := HO.lst ls) hl2; have q2 := upd_same (H := H1) (a := l2) (o := HO.lst ls); generalize upd H1 l2 (HO.lst ls) = H2 at s2 q2 ⊢)
   have tp2 := Tps.mono (s1.trans s2) tp
   have tl := tp.length
   refine ⟨l2, rfl, ⟨_, SqL.of q2⟩, ?_⟩
   refine for_list (K := K) (a := l2) (xs := ls) (fun i σ J => Same H2 J ∧ (∀ y ∈ cs.take i, rdIs y t z = false) ∧ ∃ v, σ = [some (.ref l), some (.str z), some (.ref a), v]) ⟨Same.refl _, (fun y hy => nomatch hy), _, rfl⟩ (fun i σ J _ q => SqL.of (q.1 _ _ q2)) ?_ ?_
   · rintro i e σ J hi ⟨sJ, hno, v, rfl⟩
     obtain ⟨y, hy, ty, rfl, hty⟩ := paired_get tp2 i e hi
     have s0J := (s1.trans s2).trans sJ
     dsimp only [gName]
     refine ⟨_, rfl, _, rfl, _, rfl, ty, a, z, xs, t, y, rfl, sJ _ _ hty, gs y (List.mem_cons_of_mem _ (List.mem_of_getElem? hy)), s0J _ _ ha, paired_imp (fun a b h => RelRow.mono s0J h) pr, tok, fun J2 s3 => ⟨_, rfl, rdB (fun hyt => ?_) (fun hyf => ?_)⟩⟩
     · have kk := k J2 (s0J.trans s3)
       rw [List.any_eq_true.mpr ⟨y, List.mem_of_getElem? hy, hyt⟩] at kk
       exact kk
     · refine ⟨sJ.trans s3, fun y' hy' => ?_, _, rfl⟩
       rw [take_snocG hy] at hy'
       rcases List.mem_append.mp hy' with q | q
       · exact hno y' q
       · rw [List.mem_singleton.mp q]; exact hyf
   · rintro σ J ⟨sJ, hno, v, rfl⟩
     rw [tl, List.take_of_length_le (Nat.le_refl _)] at hno
     have kk := k J ((s1.trans s2).trans sJ)
     rw [show (cs.any fun y => rdIs y t z) = false from List.any_eq_false.mpr fun y hy => by rw [hno y hy]; decide] at kk
     exact kk
def sp__law_copy (K : PySem.W.Frag) : Sp := fun vs H Q _ => ∃ (a : Addr) (xs : List V) (t : List (List Str)), vs = [.ref a] ∧ H a = some (.lst xs) ∧ Paired (RelRow H) xs t ∧ t.length ≤ 100 ∧ ∀ l es H', H l = none → H' l = some (.lst es) → Rws H H' es t → es.Nodup → V.ref l ∉ es → Same H H' → Q (.ref l) H'
theorem ok__law_copy : FnOk P w K mg base CX0 1 f__law_copy fd__law_copy ["_law_table"] (sp__law_copy K) := by
 refine T.F__law_copy.ok sc__law_copy (fun vs H Q E h => ?_) (fun cdv A outer s H vs Q E hr h => ?_)
 · obtain ⟨a, xs, t, rfl, _⟩ := h; rfl
 · have hu := hu_of hr
   have hu0 := hr.units0
   obtain ⟨a, xs, t, rfl, ha, pr, htl, k⟩ := h
   have hlx := pr.length
   refine ⟨_, (pss_one (ps_ret (pe_comp rfl (show CompScope ["_law_table"] (defScope s__law_copy) ["_law_row"] 1 [] _ from ⟨rfl, by decide +kernel, by decide +kernel, by decide +kernel, by decide +kernel, rfl, rfl, by decide +kernel⟩) (piK_list K rfl (pv 0)) (fun _ _ _ _ => (pg_name (i := 0) (show (["_law_row"] : List Str).Nodup by decide +kernel) rfl (by first | exact Or.inl rfl | exact Or.inr rfl))) (fun _ _ _ _ => pif_nil) (fun _ _ _ _ => (pe_callTy (callK_list_of K rfl) rfl T.no_list (by decide +kernel) (pa_cons (pv 0) pa_nil)))))), ?_⟩
   refine ⟨_, rfl, a, rfl, ⟨_, SqL.of ha⟩, fun D hD => ?_⟩
   refine comp_list (K := K) (a := a) (xs := xs) (fun i ys τ J => (∃ v, τ = [v]) ∧ Same H J ∧ J D = some (.lst ys) ∧ V.ref D ∉ ys ∧ ys.Nodup ∧ Rws H J ys (t.take i)) ⟨⟨_, rfl⟩, same_new hD, upd_same, (fun z => nomatch z), List.nodup_nil, .nil⟩ (fun i ys τ J _ p => ⟨SqL.of (p.2.1 _ _ ha), p.2.2.1⟩) ?_ ?_
   · rintro i e ys τ J hi ⟨⟨v, rfl⟩, sJ, hJ, nD, ndp, rw1⟩
     have hil := (List.getElem?_eq_some_iff.mp hi).1
     obtain ⟨r, hr, b, rfl, hb⟩ := paired_get pr i e hi
     have hyl := rw1.length
     rw [List.length_take] at hyl
     refine gyes ?_
     refine ⟨_, rfl, b, _, rfl, .inl (SqL.of (sJ _ _ hb)), fun l hl => ?_⟩
     have s2 := same_new (o := HO.lst (r.map V.str)) hl
     have hJ2 := s2 _ _ hJ
     have nl : l ≠ D := fun q => by rw [q, hJ] at hl; cases hl
     have nD2 : V.ref D ∉ ys ++ [.ref l] := fun q => by
       rcases List.mem_append.mp q with q | q
       · exact nD q
       · have := List.mem_singleton.mp q; cases this; exact nl rfl
     refine ⟨hJ2, Nat.lt_of_le_of_lt (show ys.length ≤ 100 by omega) (by decide), ⟨_, rfl⟩, same_set hD (sJ.trans s2), upd_same, nD2, ?_, ?_⟩
     · rw [List.nodup_append]
       refine ⟨ndp, by simp, fun y hy z hz q => ?_⟩
       rw [List.mem_singleton.mp hz] at q
       subst q
       obtain ⟨_, ys', hy'⟩ := Rws.has rw1 hy
       rw [hl] at hy'; cases hy'
     rw [take_snocG hr]
     refine Rws.but nD2 (Rws.app (Rws.mono s2 rw1) (.cons ⟨l, rfl, sJ.free hl, upd_same⟩ .nil))
   · rintro ys τ J ⟨⟨v, rfl⟩, sJ, hJ, nD, ndp, rw1⟩
     rw [hlx, List.take_of_length_le (Nat.le_refl _)] at rw1
     exact k D ys J hD hJ rw1 ndp nD sJ
def sp__law_text (K : PySem.W.Frag) : Sp := fun vs H Q _ => ∃ (c : Int) (l : Addr) (ls : List V) (cs : List Cho), vs = [.int c, .ref l] ∧ H l = some (.lst ls) ∧ Tps H ls cs ∧ (∀ c ∈ cs, GdC c) ∧ cs.length ≤ 20 ∧ ∀ (F : Str) H', cellOk F → F.length ≤ 13 → Same H H' → Q (.str F) H'
theorem ok__law_text : FnOk P w K mg base CX0 3 f__law_text fd__law_text ["_law_cell", "_law_tolds"] (sp__law_text K) := by
 have G__law_number : FnOk P w K mg base CX0 2 f__law_number fd__law_number ["_law_cell", "_law_salt"] sp__law_number := ok__law_number T
 have G__law_signs : FnOk P w K mg base CX0 1 f__law_signs fd__law_signs ["_law_tolds", "_law_table"] (sp__law_signs K) := ok__law_signs T
 refine T.F__law_text.ok sc__law_text (fun vs H Q E h => ?_) (fun cdv A outer s H vs Q E hr h => ?_)
 · obtain ⟨c, l, ls, cs, rfl, _⟩ := h; rfl
 · have hu := hu_of hr
   have hu0 := hr.units0
   obtain ⟨c, l, ls, cs, rfl, hl, tp, gs, hcl, k⟩ := h
   refine ⟨_, (pss_cons (ps_set (i := 2) sc__law_text.nd rfl (by first | exact Or.inl rfl | exact Or.inr rfl) (pe_call (k := 1) G__law_signs (hr.mono (by decide)) rfl T.g__law_signs T.F__law_signs.kp T.b__law_signs .nil pass0 (pa_cons (pv 1) (pa_cons (pe_lst (pa_cons (pe_lst (pa_cons pe_str pa_nil)) pa_nil)) pa_nil))))
     (pss_cons (ps_set (i := 3) sc__law_text.nd rfl (by first | exact Or.inl rfl | exact Or.inr rfl) (pe_call (k := 2) G__law_number (hr.mono (by decide)) rfl T.g__law_number T.F__law_number.kp T.b__law_number .nil pass0 (pa_cons (pv 0) (pa_cons pe_int pa_nil))))
     (pss_cons (ps_set (i := 4) sc__law_text.nd rfl (by first | exact Or.inl rfl | exact Or.inr rfl) (pe_op op_mod (pv 3) pe_int))
     (pss_cons (ps_set (i := 5) sc__law_text.nd rfl (by first | exact Or.inl rfl | exact Or.inr rfl) (pe_ix (ixK_list K rfl) (pe_lst (pa_cons pe_str (pa_cons pe_str (pa_cons pe_str pa_nil)))) (pe_op op_mod (pe_op op_fdiv (pv 3) pe_int) pe_int) (fun _ _ => rfl)))
     (pss_cons (ps_set (i := 3) sc__law_text.nd rfl (by first | exact Or.inl rfl | exact Or.inr rfl) (pe_op op_fdiv (pv 3) pe_int))
     (pss_cons (ps_set (i := 6) sc__law_text.nd rfl (by first | exact Or.inl rfl | exact Or.inr rfl) pe_str)
     (pss_cons (ps_for PassesOwn.never rfl (pi_range1 rfl T.no_range (pa_cons (pv 4) pa_nil)) (pg_name (i := 7) sc__law_text.nd rfl (by first | exact Or.inl rfl | exact Or.inr rfl))
     (pss_cons (ps_set (i := 6) sc__law_text.nd rfl (by first | exact Or.inl rfl | exact Or.inr rfl) (pe_op op_add_str (pv 6) (pe_ix ix_str (pv 2) (pe_op op_mod (pv 3) (pe_callB call_len_str rfl T.no_len (by decide +kernel) (pa_cons (pv 2) pa_nil))) (fun _ _ => rfl))))
     (pss_one (ps_set (i := 3) sc__law_text.nd rfl (by first | exact Or.inl rfl | exact Or.inr rfl) (pe_op op_fdiv (pv 3) (pe_callB call_len_str rfl T.no_len (by decide +kernel) (pa_cons (pv 2) pa_nil)))))))
     (pss_one (ps_ret (pe_op op_add_str (pv 6) (pv 5))))))))))), ?_⟩
   refine ⟨_, rfl, (by decide), fun r1 hr1 => ⟨(by show (1 : Nat) ≤ sizeLine; decide), fun a1 ha1 => ?_⟩⟩
   have f1 := same_new (o := HO.lst [.str (Str.ofString "a")]) hr1
   have f2 := same_new (o := HO.lst [.ref r1]) ha1
   have w1 := f2 _ _ (upd_same (H := H) (a := r1) (o := HO.lst [.str (Str.ofString "a")]))
   have w2 := upd_same (H := upd H r1 (HO.lst [.str (Str.ofString "a")])) (a := a1) (o := HO.lst [.ref r1])
   have s1 := f1.trans f2
   generalize upd (upd H r1 (HO.lst [.str (Str.ofString "a")])) a1 (HO.lst [.ref r1]) = H1 at w1 w2 s1 ⊢
   have aok : cellOk (Str.ofString "a") := by show ∀ c ∈ _, _; decide +kernel
   have al : (Str.ofString "a").length = 1 := by decide +kernel
   have tok : TabOk [[Str.ofString "a"]] := ⟨by show 1 ≤ 60; omega, fun r hr => by rw [List.mem_singleton.mp hr]; exact ⟨by show 1 ≤ 1; omega, by show 1 ≤ 20; omega, fun c hc => by rw [List.mem_singleton.mp hc]; exact aok⟩, by show (Str.ofString "a").length + 0 + 0 ≤ 400; omega⟩
   refine ⟨l, a1, ls, _, cs, [[Str.ofString "a"]], rfl, s1 _ _ hl, Tps.mono s1 tp, gs, hcl, w2, .cons ⟨r1, rfl, w1⟩ .nil, tok, fun S H2 oS hS1 hS2 s2 => ?_⟩
   have s12 := s1.trans s2
   dsimp only [gName]
   refine ⟨_, rfl, _, _, rfl, by decide, by decide, fun n => ?_⟩
   have b0 := Int.emod_nonneg n (show (13 : Int) ≠ 0 by decide)
   have b1 := Int.emod_lt_of_pos n (show (0 : Int) < 13 by decide)
   refine ⟨_, rfl, _, _, rfl, rfl, (by show (0 : Int) < 13; decide), ?_⟩
   refine ⟨(by decide), fun l3 hl3 => ?_⟩
   have s3 := same_new (o := HO.lst [.str (Str.ofString "\n"), .str (Str.ofString "\n"), .str (Str.ofString "")]) hl3
   have d0 := Int.emod_nonneg (n / 13) (show (3 : Int) ≠ 0 by decide)
   have d1 := Int.emod_lt_of_pos (n / 13) (show (0 : Int) < 3 by decide)
   have nlo : cellOk (Str.ofString "\n") := by show ∀ c ∈ _, _; decide +kernel
   have nl1 : (Str.ofString "\n").length = 1 := by decide +kernel
   obtain ⟨E, hE, oE, lE⟩ : ∃ E : Str, atI [V.str (Str.ofString "\n"), .str (Str.ofString "\n"), .str (Str.ofString "")] (n / 13 % 3) = some (.str E) ∧ cellOk E ∧ E.length ≤ 1 := by
     rcases (show n / 13 % 3 = 0 ∨ n / 13 % 3 = 1 ∨ n / 13 % 3 = 2 by omega) with q | q | q <;> rw [q]
     · exact ⟨_, rfl, nlo, by omega⟩
     · exact ⟨_, rfl, nlo, by omega⟩
     · exact ⟨_, rfl, cellOk_nil, by rw [em_len]; omega⟩
   refine ⟨_, rfl, _, _, rfl, rfl, ⟨by decide, by decide⟩, _, _, rfl, rfl, (by show (0 : Int) < 3; decide), l3, _, _, _, rfl, rfl, SqL.of upd_same, hE, ?_⟩
   generalize upd H2 l3 (HO.lst [.str (Str.ofString "\n"), .str (Str.ofString "\n"), .str (Str.ofString "")]) = H3 at s3 ⊢
   dsimp only [gName]
   refine ⟨_, rfl, _, _, rfl, rfl, ⟨by decide, by decide⟩, ?_⟩
   have s13 := s12.trans s3
   obtain ⟨size, esz⟩ : ∃ size : Int, size = n % 13 := ⟨_, rfl⟩
   rw [← esz]
   rw [← esz] at b0 b1
   refine ⟨_, rfl, size, rfl, by omega, by omega, ?_⟩
   refine for_range (fun i σ J => Same H J ∧ ∃ (r : Int) (F : Str) (v1 : Option V), σ = [some (.int c), some (.ref l), some (.str S), some (.int r), some (.int size), some (.str E), some (.str F), v1] ∧ cellOk F ∧ F.length ≤ i) ⟨s13, _, _, none, rfl, cellOk_nil, by rw [em_len]; exact Nat.le_refl _⟩ ?_ ?_
   · rintro i σ J hi ⟨sJ, r, F, v1, rfl, oF, hF⟩
     have hml : S.length ≤ sizeLine := Nat.le_trans hS2 (by decide)
     have hlen : S.cps.toList.length = S.length := by rw [Array.length_toList]; rfl
     obtain ⟨d, ed, hd⟩ := at_int (xs := S.cps.toList) (Int.emod_nonneg r (show (S.length : Int) ≠ 0 by omega)) (by rw [hlen]; exact Int.emod_lt_of_pos r (by omega))
     have e1 : (F ++ (⟨#[d]⟩ : Str)).length = F.length + 1 := app_len _ _
     refine ⟨_, rfl, _, rfl, _, rfl, _, rfl, _, rfl, (by omega), _, _, rfl, rfl, (by omega), _, _, _, rfl, rfl, (by omega), ed, _, _, rfl, rfl, ?_, _, rfl, _, rfl, _, rfl, (by omega), _, _, rfl, rfl, ⟨(by omega), (by omega)⟩, sJ, _, _, _, rfl, ?_, ?_⟩
     · exact Nat.le_trans (show F.length + 1 ≤ 100 by omega) (by decide)
     · exact cell_app oF (fun b hb => by rw [List.mem_singleton.mp (show b ∈ [d] from hb)]; exact oS d hd)
     · rw [e1]; omega
   · rintro σ J ⟨sJ, r, F, v1, rfl, oF, hF⟩
     refine ⟨_, rfl, _, rfl, _, _, rfl, rfl, Nat.le_trans (show F.length + E.length ≤ 100 by omega) (by decide), ?_⟩
     exact k _ J (cell_app oF oE) (by rw [app_len]; omega) sJ
def sp__law_table_of (K : PySem.W.Frag) : Sp := fun vs H Q _ => ∃ (tt : Addr) (z : Str) (x : Cho), vs = [.ref tt, .str z] ∧ H tt = some (.tup (sevC x)) ∧ cellOk z ∧ z.length ≤ 19 ∧ ∀ l es t H', H l = none → H' l = some (.lst es) → Rws H H' es t → TabOk t → total t ≤ 19 → t.length ≤ 19 → Same H H' → Q (.ref l) H'
theorem ok__law_table_of : FnOk P w K mg base CX0 3 f__law_table_of fd__law_table_of ["_law_told_here", "_law_text_here"] (sp__law_table_of K) := by
 have G__law_step : FnOk P w K mg base CX0 2 f__law_step fd__law_step ["_law_told_here", "_law_state", "_law_sign"] (sp__law_step K) := ok__law_step T
 refine T.F__law_table_of.ok sc__law_table_of (fun vs H Q E h => ?_) (fun cdv A outer s H vs Q E hr h => ?_)
 · obtain ⟨tt, z, x, rfl, _⟩ := h; rfl
 · have hu := hu_of hr
   have hu0 := hr.units0
   obtain ⟨tt, z, x, rfl, htt, hz, hzl, k⟩ := h
   refine ⟨_, (pss_cons (ps_set (i := 2) sc__law_table_of.nd rfl (by first | exact Or.inl rfl | exact Or.inr rfl) (pe_tup (pa_cons pe_str (pa_cons pe_str pa_nil))))
     (pss_cons (ps_set (i := 3) sc__law_table_of.nd rfl (by first | exact Or.inl rfl | exact Or.inr rfl) (pe_lst pa_nil))
     (pss_cons (ps_set (i := 4) sc__law_table_of.nd rfl (by first | exact Or.inl rfl | exact Or.inr rfl) (pe_lst pa_nil))
     (pss_cons (ps_set (i := 5) sc__law_table_of.nd rfl (by first | exact Or.inl rfl | exact Or.inr rfl) pe_str)
     (pss_cons (ps_for PassesOwn.never rfl (pi_str (pv 1)) (pg_name (i := 6) sc__law_table_of.nd rfl (by first | exact Or.inl rfl | exact Or.inr rfl))
     (pss_cons (ps_asg (pe_call (k := 2) G__law_step (hr.mono (by decide)) rfl T.g__law_step T.F__law_step.kp T.b__law_step .nil pass0 (pa_cons (pv 0) (pa_cons (pv 2) (pa_cons (pv 6) pa_nil)))) (pgK_tup K rfl 2 rfl (pgs_cons (pg_name (i := 7) sc__law_table_of.nd rfl (by first | exact Or.inl rfl | exact Or.inr rfl)) (pgs_cons (pg_name (i := 2) sc__law_table_of.nd rfl (by first | exact Or.inl rfl | exact Or.inr rfl)) pgs_nil))))
     (pss_cons (ps_if (pt_cmpR op_eq (pv 7) pe_str (nomark _)) (pss_one (ps_ret (pv 3))) pss_nil)
     (pss_cons (ps_if (pt_cmpR op_eq (pv 7) pe_str (nomark _)) (pss_one (ps_set (i := 5) sc__law_table_of.nd rfl (by first | exact Or.inl rfl | exact Or.inr rfl) (pe_op op_add_str (pv 5) (pv 6)))) (pss_one (ps_if (pt_cmpR op_ne (pv 7) pe_str (nomark _)) (pss_cons (ps_expr (peK_bm K rfl PySem.F.plainAttrs_list PySem.F.slot_list_append PySem.F.type_list_append mt_append (pv 4) (pa_cons (pv 5) pa_nil)))
     (pss_one (ps_set (i := 5) sc__law_table_of.nd rfl (by first | exact Or.inl rfl | exact Or.inr rfl) pe_str))) pss_nil)))
     (pss_one (ps_if (pt_cmpR op_eq (pv 7) pe_str (nomark _)) (pss_cons (ps_expr (peK_bm K rfl PySem.F.plainAttrs_list PySem.F.slot_list_append PySem.F.type_list_append mt_append (pv 3) (pa_cons (pv 4) pa_nil)))
     (pss_one (ps_set (i := 4) sc__law_table_of.nd rfl (by first | exact Or.inl rfl | exact Or.inr rfl) (pe_lst pa_nil)))) pss_nil))))))
     (pss_one (ps_ret (pv 3)))))))), ?_⟩
   refine ⟨(by decide), fun s0 hs0 => ⟨(by decide), fun L hL => ⟨(by decide), fun R0 hR0 => ⟨_, rfl, _, rfl, ?_⟩⟩⟩⟩
   have f1 := same_new (o := HO.tup [.str (Str.ofString "row"), .str (Str.ofString "")]) hs0
   have f2 := same_new (o := HO.lst []) hL
   have f3 := same_new (o := HO.lst []) hR0
   have w1 := f3 _ _ (f2 _ _ (upd_same (H := H) (a := s0) (o := HO.tup [.str (Str.ofString "row"), .str (Str.ofString "")])))
   have w2 := f3 _ _ (upd_same (H := upd H s0 (HO.tup [.str (Str.ofString "row"), .str (Str.ofString "")])) (a := L) (o := HO.lst []))
   have w3 := upd_same (H := upd (upd H s0 (HO.tup [.str (Str.ofString "row"), .str (Str.ofString "")])) L (HO.lst [])) (a := R0) (o := HO.lst [])
   have nRL : R0 ≠ L := fun q => by rw [q, upd_same] at hR0; cases hR0
   have hL0 : H L = none := f1.free hL
   have hRn : H R0 = none := (f1.trans f2).free hR0
   have s3 := f1.trans (f2.trans f3)
   generalize upd (upd (upd H s0 (HO.tup [.str (Str.ofString "row"), .str (Str.ofString "")])) L (HO.lst [])) R0 (HO.lst []) = H3 at w1 w2 w3 s3 ⊢
   have hzlen : z.cps.toList.length = z.length := by rw [Array.length_toList]; rfl
   refine for_str (fun i σ J => Same H J ∧ ∃ (w u : Str) (s R : Addr) (o : Str) (es : List V) (T : List (List Str)) (r : List Str) (v6 v7 : Option V), σ = [some (.ref tt), some (.str z), some (.ref s), some (.ref L), some (.ref R), some (.str o), v6, v7] ∧ SqT K J s [.str w, .str u] ∧ J L = some (.lst es) ∧ J R = some (.lst (r.map V.str)) ∧ R ≠ L ∧ H R = none ∧ V.ref R ∉ es ∧ V.ref L ∉ es ∧ Rws H J es T ∧ (∀ r' ∈ T, RowOk r') ∧ (∀ c ∈ r, cellOk c) ∧ cellOk o ∧ cells T + total T + r.length + (lens r).sum + o.length ≤ i) ⟨s3, _, _, s0, R0, _, [], [], [], none, none, rfl, SqT.of w1, w2, w3, nRL, hRn, (fun q => nomatch q), (fun q => nomatch q), .nil, (fun _ q => nomatch q), (fun _ q => nomatch q), cellOk_nil, by rw [em_len]; exact Nat.le_refl _⟩ ?_ ?_
   · rintro i c σ J hi ⟨sJ, w, u, s, R, o, es, T, r, v6, v7, rfl, hs, hLJ, hRJ, nRL, hRn, nR, nL, rwT, okT, okr, oko, hcnt⟩
     have hil := (List.getElem?_eq_some_iff.mp hi).1
     have hel := rwT.length
     have hcg := cells_ge okT
     have fin : ∀ J', Same H J' → J' L = some (.lst es) → Rws H J' es T → Q (.ref L) J' := fun J' sj hl hw => k L es T J' hL0 hl hw ⟨by omega, okT, by omega⟩ (by omega) (by omega) sj
     refine ⟨_, rfl, _, rfl, _, rfl, tt, s, w, u, c, x.1, x.2.1, x.2.2.1, x.2.2.2.a, x.2.2.2.b, x.2.2.2.c, x.2.2.2.d, rfl, SqT.of (sJ _ _ htt), hs, fun v5 J5 s5 q5 => ?_⟩
     have hL5 := s5 _ _ hLJ; have hR5 := s5 _ _ hRJ; have rw5 := Rws.mono s5 rwT
     cases hr5 : stepM x.1 x.2.1 x.2.2.1 x.2.2.2.a x.2.2.2.b x.2.2.2.c x.2.2.2.d w u c with
     | flt e =>
       rw [hr5] at q5
       obtain ⟨a, rfl, ha⟩ := q5
       refine ⟨a, _, rfl, ha, rfl, _, _, rfl, _, _, rfl, rfl, ?_⟩
       exact ⟨_, rfl, rfl, _, rfl, iteBt (isS_self _) ⟨_, rfl, fin J5 (sJ.trans s5) hL5 rw5⟩⟩
     | go kd w3 u3 =>
       rw [hr5] at q5
       obtain ⟨hk, a, b, rfl, ha, hb⟩ := q5
       refine ⟨a, _, rfl, ha, rfl, _, _, rfl, _, _, rfl, rfl, ?_⟩
       refine ⟨_, rfl, rfl, _, rfl, iteBf hk ?_⟩
       dsimp only [tNext, gName]
       refine seq_split (t := tIfS _ _ _) (fun σ' G => Same H G ∧ ∃ (o : Str) (r : List Str), σ' = [some (.ref tt), some (.str z), some (.ref b), some (.ref L), some (.ref R), some (.str o), some (.str (sg c)), some (.str kd)] ∧ SqT K G b [.str w3, .str u3] ∧ G L = some (.lst es) ∧ G R = some (.lst (r.map V.str)) ∧ Rws H G es T ∧ (∀ c ∈ r, cellOk c) ∧ cellOk o ∧ cells T + total T + r.length + (lens r).sum + o.length ≤ i + 1 ∧ (isS kd (Str.ofString "end") = true → 1 ≤ r.length)) ?_ (fun go => ?_)
       rotate_left
       · refine ⟨_, rfl, rfl, _, rfl, ite2 (fun (h1 : isS kd (Str.ofString "put") = true) => ?_) (fun (h1 : ¬ isS kd (Str.ofString "put") = true) => ?_)⟩
         · refine ⟨_, rfl, _, rfl, _, _, rfl, rfl, Nat.le_trans (show o.length + 1 ≤ 100 by omega) (by decide), go _ _ ⟨sJ.trans s5, _, r, rfl, hb, hL5, hR5, rw5, okr, cellOk_snoc oko (hz c (List.mem_of_getElem? hi)), by rw [app_len]; show _ + (o.length + 1) ≤ i + 1; omega, fun q => ?_⟩⟩
           rw [isS_eq h1] at q
           exact absurd q (ns (by decide +kernel))
         · refine ⟨_, rfl, rfl, _, rfl, ite2 (fun h2 => ?_) (fun h2 => ?_)⟩
           · refine ⟨_, rfl, .inl ⟨rfl, _, SqL.of hR5⟩, _, rfl, R, _, _, rfl, rfl, hR5, ?_, ?_⟩
             · rw [List.length_map]; exact Nat.lt_of_le_of_lt (show r.length ≤ 100 by omega) (by decide)
             refine go _ _ ⟨same_set hRn (sJ.trans s5), Str.ofString "", r ++ [o], rfl, sqt_but hR5 hb, (upd_ne (Ne.symm nRL)).trans hL5, by rw [List.map_append]; exact upd_same, Rws.but nR rw5, fun d hd => ?_, cellOk_nil, ?_, fun _ => by rw [List.length_append]; show 1 ≤ _ + 1; omega⟩
             · rcases List.mem_append.mp hd with q | q
               · exact okr d q
               · rw [List.mem_singleton.mp q]; exact oko
             · rw [lens_snoc, em_len, List.length_append, List.length_singleton]; omega
           · have h2 : isS kd (Str.ofString "skip") = true := by
               cases hq : isS kd (Str.ofString "skip") with
               | true => rfl
               | false => exact absurd (show (!isS kd (Str.ofString "skip")) = true by rw [hq]; rfl) h2
             refine go _ _ ⟨sJ.trans s5, o, r, rfl, hb, hL5, hR5, rw5, okr, oko, by omega, fun q => ?_⟩
             rw [isS_eq h2] at q
             exact absurd q (ns (by decide +kernel))
       clear hcnt oko okr hRJ hR5 rwT rw5 hLJ hL5 hb
       rintro σ' G ⟨sG, o, r, rfl, hb, hLG, hRG, rwG, okr, oko, hcnt, hend⟩
       refine ⟨_, rfl, rfl, _, rfl, ite2 (fun (h1 : isS kd (Str.ofString "end") = true) => ?_) (fun h1 => ?_)⟩
       · have hlo := hend h1
         refine ⟨_, rfl, .inl ⟨rfl, _, SqL.of hLG⟩, _, rfl, L, _, _, rfl, rfl, hLG, ?_, ?_⟩
         · exact Nat.lt_of_le_of_lt (show es.length ≤ 100 by omega) (by decide)
         have nL2 : V.ref L ∉ es ++ [.ref R] := fun q => by
           rcases List.mem_append.mp q with q | q
           · exact nL q
           · have := List.mem_singleton.mp q; cases this; exact nRL rfl
         have sL : Same H (upd G L (.lst (es ++ [.ref R]))) := same_set hL0 sG
         have hLL := upd_same (H := G) (a := L) (o := HO.lst (es ++ [.ref R]))
         have rwL : Rws H (upd G L (.lst (es ++ [.ref R]))) (es ++ [.ref R]) (T ++ [r]) := Rws.but nL2 (Rws.app rwG (.cons ⟨R, rfl, hRn, hRG⟩ .nil))
         have hbL := sqt_but (o := HO.lst (es ++ [.ref R])) hLG hb
         generalize upd G L (.lst (es ++ [.ref R])) = GL at sL hLL rwL hbL ⊢
         refine ⟨(by decide), fun R2 hR2 => ?_⟩
         have sr := same_new (o := HO.lst []) hR2
         have rwR := Rws.mono sr rwL
         refine ⟨sL.trans sr, w3, u3, b, R2, o, es ++ [.ref R], T ++ [r], [], _, _, rfl, sqt_mono sr hbL, sr _ _ hLL, upd_same, (fun q => by rw [q, hLL] at hR2; cases hR2), sL.free hR2, fun q => ?_, nL2, rwR, fun r' hr' => ?_, (fun _ q => nomatch q), oko, ?_⟩
         · obtain ⟨_, ys, hy⟩ := Rws.has rwL q
           rw [hR2] at hy; cases hy
         · rcases List.mem_append.mp hr' with q | q
           · exact okT r' q
           · rw [List.mem_singleton.mp q]; exact ⟨hlo, by omega, okr⟩
         · rw [total_snoc, cells_snoc]; show _ + _ + 0 + 0 + o.length ≤ i + 1; omega
       · exact ⟨sG, w3, u3, b, R, o, es, T, r, _, _, rfl, hb, hLG, hRG, nRL, hRn, nR, nL, rwG, okT, okr, oko, hcnt⟩
   · rintro σ J ⟨sJ, w, u, s, R, o, es, T, r, v6, v7, rfl, hs, hLJ, hRJ, nRL, hRn, nR, nL, rwT, okT, okr, oko, hcnt⟩
     have hel := rwT.length
     have hcg := cells_ge okT
     exact ⟨_, rfl, k L es T J hL0 hLJ rwT ⟨by omega, okT, by omega⟩ (by omega) (by omega) sJ⟩
def sp_law (K : PySem.W.Frag) : Sp := fun vs H Q _ => ∃ (a : Addr) (ns : List Int), vs = [.ref a] ∧ SqL K H a (ns.map V.int) ∧ ns.length ≤ 63 ∧ ∀ H', Q (.bl true) H'
theorem ok_law : FnOk P w K mg base CX0 11 f_law fd_law ["_law_script"] (sp_law K) := by
 have G__law_cell_at : FnOk P w K mg base CX0 1 f__law_cell_at fd__law_cell_at ["_law_script", "_law_k"] (sp__law_cell_at K) := ok__law_cell_at T
 have G__law_copy : FnOk P w K mg base CX0 1 f__law_copy fd__law_copy ["_law_table"] (sp__law_copy K) := ok__law_copy T
 have G__law_made : FnOk P w K mg base CX0 5 f__law_made fd__law_made ["_law_told_here"] (sp__law_made C_Dialect) := ok__law_made T
 have G__law_others : FnOk P w K mg base CX0 4 f__law_others fd__law_others ["_law_script", "_law_told_here", "_law_first", "_law_many"] (sp__law_others K) := ok__law_others T
 have G__law_sole : FnOk P w K mg base CX0 5 f__law_sole fd__law_sole ["_law_tolds", "_law_text_here", "_law_table"] (sp__law_sole K) := ok__law_sole T
 have G__law_table_of : FnOk P w K mg base CX0 3 f__law_table_of fd__law_table_of ["_law_told_here", "_law_text_here"] (sp__law_table_of K) := ok__law_table_of T
 have G__law_text : FnOk P w K mg base CX0 3 f__law_text fd__law_text ["_law_cell", "_law_tolds"] (sp__law_text K) := ok__law_text T
 have G__law_told : FnOk P w K mg base CX0 3 f__law_told fd__law_told ["_law_cell"] sp__law_told := ok__law_told T
 have G_is_sole : FnOk P w K mg base CX0 10 f_is_sole fd_is_sole ["dialect", "table", "others", "text"] (sp_is_sole K C_Dialect) := ok_is_sole T
 refine T.F_law.ok sc_law (fun vs H Q E h => ?_) (fun cdv A outer s H vs Q E hr h => ?_)
 · obtain ⟨a, ns, rfl, _⟩ := h; rfl
 · have hu := hu_of hr
   have hu0 := hr.units0
   obtain ⟨a, ns, rfl, hS, hlen, k⟩ := h
   have hu64 := hr.units
   refine' ⟨_, ?aa, ?bb⟩
   case aa =>
     refine' pss_cons ?s0 ?r0
     case s0 =>
       exact (ps_set (i := 1) sc_law.nd rfl (by first | exact Or.inl rfl | exact Or.inr rfl) (pe_call (k := 3) G__law_told (hr.mono (by decide)) rfl T.g__law_told T.F__law_told.kp T.b__law_told .nil pass0 (pa_cons (pe_call (k := 1) G__law_cell_at (hr.mono (by decide)) rfl T.g__law_cell_at T.F__law_cell_at.kp T.b__law_cell_at .nil pass0 (pa_cons (pv 0) (pa_cons pe_int pa_nil))) pa_nil)))
     case r0 =>
       refine' pss_cons ?s1 ?r1
       case s1 =>
         exact (ps_set (i := 2) sc_law.nd rfl (by first | exact Or.inl rfl | exact Or.inr rfl) (pe_op op_cat (pe_lst (pa_cons (pv 1) pa_nil)) (pe_call (k := 4) G__law_others (hr.mono (by decide)) rfl T.g__law_others T.F__law_others.kp T.b__law_others .nil pass0 (pa_cons (pv 0) (pa_cons (pv 1) (pa_cons pe_int (pa_cons (pe_op op_mod (pe_call (k := 1) G__law_cell_at (hr.mono (by decide)) rfl T.g__law_cell_at T.F__law_cell_at.kp T.b__law_cell_at .nil pass0 (pa_cons (pv 0) (pa_cons pe_int pa_nil))) pe_int) pa_nil)))))))
       case r1 =>
         refine' pss_cons ?s2 ?r2
         case s2 =>
           exact (ps_set (i := 3) sc_law.nd rfl (by first | exact Or.inl rfl | exact Or.inr rfl) (pe_call (k := 3) G__law_text (hr.mono (by decide)) rfl T.g__law_text T.F__law_text.kp T.b__law_text .nil pass0 (pa_cons (pe_call (k := 1) G__law_cell_at (hr.mono (by decide)) rfl T.g__law_cell_at T.F__law_cell_at.kp T.b__law_cell_at .nil pass0 (pa_cons (pv 0) (pa_cons pe_int pa_nil))) (pa_cons (pv 2) pa_nil))))
         case r2 =>
           refine' pss_cons ?s3 ?r3
           case s3 =>
             exact (ps_set (i := 4) sc_law.nd rfl (by first | exact Or.inl rfl | exact Or.inr rfl) (pe_call (k := 3) G__law_table_of (hr.mono (by decide)) rfl T.g__law_table_of T.F__law_table_of.kp T.b__law_table_of .nil pass0 (pa_cons (pv 1) (pa_cons (pv 3) pa_nil))))
           case r3 =>
             refine' pss_cons ?s4 ?r4
             case s4 =>
               exact (ps_set (i := 5) sc_law.nd rfl (by first | exact Or.inl rfl | exact Or.inr rfl) (pe_op op_cat (pe_call (k := 1) G__law_copy (hr.mono (by decide)) rfl T.g__law_copy T.F__law_copy.kp T.b__law_copy .nil pass0 (pa_cons (pv 4) pa_nil)) (pe_lst (pa_cons (pe_lst (pa_cons pe_str pa_nil)) pa_nil))))
             case r4 =>
               refine' pss_cons ?s5 ?r5
               case s5 =>
                 refine' ps_if ?c6 ?b6 ?e6
                 case c6 => exact (pt_cmpR (opK_neL K rfl hu0) (pv 4) (pe_lst pa_nil) (nomark _))
                 case b6 =>
                   refine' pss_cons ?s7 ?r7
                   case s7 =>
                     exact (ps_set (i := 5) sc_law.nd rfl (by first | exact Or.inl rfl | exact Or.inr rfl) (pe_call (k := 1) G__law_copy (hr.mono (by decide)) rfl T.g__law_copy T.F__law_copy.kp T.b__law_copy .nil pass0 (pa_cons (pv 4) pa_nil)))
                   case r7 =>
                     refine' pss_one ?s8
                     case s8 =>
                       exact (ps_asg (pe_op op_add_str (pe_ix (ixK_list K rfl) (pe_ix (ixK_list K rfl) (pv 5) pe_int (fun _ _ => rfl)) pe_int (fun _ _ => rfl)) pe_str) (pg_sub (pe_ix (ixK_list K rfl) (pv 5) pe_int (fun _ _ => rfl)) pe_int set_list))
                 case e6 =>
                   exact pss_nil
               case r5 =>
                 refine' pss_cons ?s9 ?r9
                 case s9 =>
                   exact (ps_setC (i := 6) rfl sc_law.nd rfl rfl (show CompScope ["_law_script", "_law_told_here", "_law_tolds", "_law_text_here", "_law_table", "_law_other", "_law_made_here", "_law_rows", "_law_handed", "_law_thing", "_law_found"] (defScope s_law) ["_law_one"] 1 [] _ from ⟨rfl, by decide +kernel, by decide +kernel, by decide +kernel, by decide +kernel, rfl, rfl, by decide +kernel⟩) (piK_list K rfl (pv 2)) (fun _ _ _ _ => (pg_name (i := 0) (show (["_law_one"] : List Str).Nodup by decide +kernel) rfl (by first | exact Or.inl rfl | exact Or.inr rfl))) (fun _ _ _ _ => pif_nil) (fun _ _ _ _ => (pe_call (k := 5) G__law_made (hr.mono (by decide)) rfl T.g__law_made T.F__law_made.kp T.b__law_made .nil pass0 (pa_cons (pv 0) pa_nil))))
                 case r9 =>
                   refine' pss_cons ?s10 ?r10
                   case s10 =>
                     refine' ps_for PassesOwn.never rfl ?i11 ?t11 ?b11
                     case i11 =>
                       refine' piK_list K rfl ?l11
                       case l11 =>
                         refine' pe_lst ?a12
                         case a12 =>
                           refine' pa_cons ?x13 ?y13 ?z13
                           case z13 => exact rfl
                           case x13 =>
                             exact (pv 4)
                           case y13 =>
                             refine' pa_cons ?x14 ?y14 ?z14
                             case z14 => exact rfl
                             case x14 =>
                               exact (pv 5)
                             case y14 =>
                               refine' pa_cons ?x15 ?y15 ?z15
                               case z15 => exact rfl
                               case x15 =>
                                 exact (pv 4)
                               case y15 =>
                                 exact pa_nil
                     case t11 => exact (pg_name (i := 7) sc_law.nd rfl (by first | exact Or.inl rfl | exact Or.inr rfl))
                     case b11 =>
                       refine' pss_cons ?s16 ?r16
                       case s16 =>
                         exact (ps_set (i := 8) sc_law.nd rfl (by first | exact Or.inl rfl | exact Or.inr rfl) (pe_call (k := 1) G__law_copy (hr.mono (by decide)) rfl T.g__law_copy T.F__law_copy.kp T.b__law_copy .nil pass0 (pa_cons (pv 7) pa_nil)))
                       case r16 =>
                         refine' pss_cons ?s17 ?r17
                         case s17 =>
                           refine' ps_for PassesOwn.never rfl ?i18 ?t18 ?b18
                           case i18 =>
                             refine' piK_list K rfl ?l18
                             case l18 =>
                               refine' pe_lst ?a19
                               case a19 =>
                                 refine' pa_cons ?x20 ?y20 ?z20
                                 case z20 => exact rfl
                                 case x20 =>
                                   exact (pv 3)
                                 case y20 =>
                                   refine' pa_cons ?x21 ?y21 ?z21
                                   case z21 => exact rfl
                                   case x21 =>
                                     exact (pe_slice sl_str (pv 3) po_none (po_some (pe_un un_neg pe_int)))
                                   case y21 =>
                                     refine' pa_cons ?x22 ?y22 ?z22
                                     case z22 => exact rfl
                                     case x22 =>
                                       exact (pe_op op_add_str (pv 3) pe_str)
                                     case y22 =>
                                       exact pa_nil
                           case t18 => exact (pg_name (i := 9) sc_law.nd rfl (by first | exact Or.inl rfl | exact Or.inr rfl))
                           case b18 =>
                             refine' pss_cons ?s23 ?r23
                             case s23 =>
                               exact (ps_set (i := 10) sc_law.nd rfl (by first | exact Or.inl rfl | exact Or.inr rfl) (pe_call (k := 10) G_is_sole (hr.mono (by decide)) rfl T.g_is_sole T.F_is_sole.kp T.b_is_sole .nil pass0 (pa_cons (pe_ix (ixK_list K rfl) (pv 6) pe_int (fun _ _ => rfl)) (pa_cons (pv 8) (pa_cons (pe_slice (slK_list K rfl) (pv 6) (po_some pe_int) po_none) (pa_cons (pv 9) pa_nil))))))
                             case r23 =>
                               refine' pss_one ?s24
                               case s24 =>
                                 refine' ps_if ?c25 ?b25 ?e25
                                 case c25 => exact (PW.pt (pw_or (pt_not (pt_val (pe_callB (callK_isinst K rfl) rfl T.no_isinstance (by decide +kernel) (pa_cons (pv 10) (pa_cons (pe_bty "bool" rfl T.no_bool (by decide +kernel)) pa_nil))))) (pw_or (pt_cmpR op_ne (pv 10) (pe_call (k := 5) G__law_sole (hr.mono (by decide)) rfl T.g__law_sole T.F__law_sole.kp T.b__law_sole .nil pass0 (pa_cons (pv 2) (pa_cons (pv 9) (pa_cons (pv 7) pa_nil)))) (nomark _)) (pw_or1 (pt_cmpR (op_neS K rfl hu64) (pv 8) (pv 7) (nomark _))))))
                                 case b25 =>
                                   refine' pss_one ?s26
                                   case s26 =>
                                     exact (ps_ret pe_bl)
                                 case e25 =>
                                   exact pss_nil
                         case r17 =>
                           refine' pss_one ?s27
                           case s27 =>
                             refine' ps_for PassesOwn.never rfl ?i28 ?t28 ?b28
                             case i28 =>
                               refine' piK_list K rfl ?l28
                               case l28 =>
                                 refine' pe_lst ?a29
                                 case a29 =>
                                   refine' pa_cons ?x30 ?y30 ?z30
                                   case z30 => exact rfl
                                   case x30 =>
                                     exact pe_non
                                   case y30 =>
                                     refine' pa_cons ?x31 ?y31 ?z31
                                     case z31 => exact rfl
                                     case x31 =>
                                       exact pe_int
                                     case y31 =>
                                       refine' pa_cons ?x32 ?y32 ?z32
                                       case z32 => exact rfl
                                       case x32 =>
                                         exact pe_bl
                                       case y32 =>
                                         refine' pa_cons ?x33 ?y33 ?z33
                                         case z33 => exact rfl
                                         case x33 =>
                                           refine' pe_lst ?a34
                                           case a34 =>
                                             refine' pa_cons ?x35 ?y35 ?z35
                                             case z35 => exact rfl
                                             case x35 =>
                                               exact (pv 3)
                                             case y35 =>
                                               exact pa_nil
                                         case y33 =>
                                           refine' pa_cons ?x36 ?y36 ?z36
                                           case z36 => exact rfl
                                           case x36 =>
                                             refine' pe_tup ?a37
                                             case a37 =>
                                               refine' pa_cons ?x38 ?y38 ?z38
                                               case z38 => exact rfl
                                               case x38 =>
                                                 exact (pv 3)
                                               case y38 =>
                                                 exact pa_nil
                                           case y36 =>
                                             refine' pa_cons ?x39 ?y39 ?z39
                                             case z39 => exact rfl
                                             case x39 =>
                                               refine' pe_lst ?a40
                                               case a40 =>
                                                 refine' pa_cons ?x41 ?y41 ?z41
                                                 case z41 => exact rfl
                                                 case x41 =>
                                                   exact pe_str
                                                 case y41 =>
                                                   exact pa_nil
                                             case y39 =>
                                               exact pa_nil
                             case t28 => exact (pg_name (i := 9) sc_law.nd rfl (by first | exact Or.inl rfl | exact Or.inr rfl))
                             case b28 =>
                               refine' pss_one ?s42
                               case s42 =>
                                 refine' ps_if ?c43 ?b43 ?e43
                                 case c43 => exact (pt_cmpR op_isNotB (pe_call (k := 10) G_is_sole (hr.mono (by decide)) rfl T.g_is_sole T.F_is_sole.kp T.b_is_sole .nil pass0 (pa_cons (pe_ix (ixK_list K rfl) (pv 6) pe_int (fun _ _ => rfl)) (pa_cons (pv 8) (pa_cons (pe_slice (slK_list K rfl) (pv 6) (po_some pe_int) po_none) (pa_cons (pv 9) pa_nil))))) pe_bl (nomark _))
                                 case b43 =>
                                   refine' pss_one ?s44
                                   case s44 =>
                                     exact (ps_ret pe_bl)
                                 case e43 =>
                                   exact pss_nil
                   case r10 =>
                     refine' pss_one ?s45
                     case s45 =>
                       exact (ps_ret (pe_cmpR op_isB (pe_call (k := 10) G_is_sole (hr.mono (by decide)) rfl T.g_is_sole T.F_is_sole.kp T.b_is_sole .nil pass0 (pa_cons (pe_ix (ixK_list K rfl) (pv 6) pe_int (fun _ _ => rfl)) (pa_cons (pv 4) (pa_cons (pe_slice (slK_list K rfl) (pv 6) (po_some pe_int) po_none) (pa_cons (pe_op op_add_str (pe_op op_mulA pe_str pe_int) (pv 3)) pa_nil))))) pe_bl (nomark _)))
   refine ⟨_, rfl, a, _, _, rfl, hS, by decide, fun c0 => ⟨c0, rfl, fun t p q f b1 b2 b3 b4 H1 g ht h1 s1 => ?_⟩⟩
   obtain ⟨x, ex⟩ : ∃ x : Cho, x = (p, q, f, ⟨b1, b2, b3, b4⟩) := ⟨_, rfl⟩
   have g : GdC x := by rw [ex]; exact g
   have h1 : H1 t = some (.tup (sevC x)) := by rw [ex]; exact h1
   clear ex
   dsimp only [gName]
   have hS1 := s1.seq hS
   refine ⟨_, rfl, (by show (1 : Nat) ≤ sizeLine; decide), fun l0 hl0 => ?_⟩
   (have s2 := same_new (o := HO.lst [V.ref t]) hl0; have q2 := upd_same (H := H1) (a := l0) (o := HO.lst [V.ref t]); generalize upd H1 l0 (HO.lst [V.ref t]) = H2 at s2 q2 ⊢)
   have hS2 := s2.seq hS1
   have ht2 := s2 _ _ h1
   refine ⟨_, rfl, _, rfl, _, rfl, a, _, _, rfl, hS2, by decide, fun c2 => ?_⟩
   have m0' := Int.emod_nonneg c2 (show (4 : Int) ≠ 0 by decide)
   have m1' := Int.emod_lt_of_pos c2 (show (0 : Int) < 4 by decide)
   refine ⟨_, _, rfl, rfl, (by omega), _, _, _, _, _, _, rfl, (Same.refl _).seq hS2, (by omega), ht2, g, (by omega), (by omega), (by omega), (by omega), fun l1 xs1 cs1 H3 hl1 h3 tp3 gs3 hcl3 s3 => ⟨_, _, _, _, rfl, rfl, (s3 _ _ q2), h3, ?_, ?_⟩⟩
   · exact Nat.le_trans (show 1 + xs1.length ≤ 100 by have := tp3.length; omega) (by decide)
   intro L hL
   have s4 := same_new (o := HO.lst ([V.ref t] ++ xs1)) hL
   have q4 := upd_same (H := H3) (a := L) (o := HO.lst ([V.ref t] ++ xs1))
   generalize upd H3 L (HO.lst ([V.ref t] ++ xs1)) = H4 at s4 q4 ⊢
   have s14 := s2.trans (s3.trans s4)
   have tp4 : Tps H4 (.ref t :: xs1) (x :: cs1) := .cons ⟨t, rfl, s14 _ _ h1⟩ (Tps.mono s4 tp3)
   have gs4 : ∀ c ∈ x :: cs1, GdC c := fun c hc => by
     rcases List.mem_cons.mp hc with q | q
     · rw [q]; exact g
     · exact gs3 c q
   have hcl4 : (x :: cs1).length ≤ 20 := by rw [List.length_cons]; omega
   have hS4 := s14.seq hS1
   have ht4 := s14 _ _ h1
   clear tp3 h3 q2 s2 s3 s4 hS2 ht2
   dsimp only [gName]
   refine ⟨_, rfl, a, _, _, rfl, hS4, by decide, fun c1 => ⟨_, rfl, c1, L, _, x :: cs1, rfl, q4, tp4, gs4, hcl4, fun z H5 oz hzl s5 => ?_⟩⟩
   dsimp only [gName]
   refine ⟨_, rfl, _, rfl, t, z, x, rfl, s5 _ _ ht4, oz, by omega, fun lt es T H6 hlt0 hlt rwT tokT totT lenT s6 => ?_⟩
   dsimp only [gName]
   have pr6 := rws_row rwT
   have s46 := s5.trans s6
   have q6 := s46 _ _ q4
   have tp6 := Tps.mono s46 tp4
   have hS6 := s46.seq hS4
   have ht6 := s46 _ _ ht4
   clear q4 tp4 hS4 ht4 s5 s6
   refine ⟨_, rfl, lt, es, T, rfl, hlt, pr6, by omega, fun l7 es7 H7 hl70 hl7 rw7 nd7 nl7 s7 => ?_⟩
   have pr7 := rws_row rw7
   have pl7 := pr7.length
   refine ⟨(by show (1 : Nat) ≤ sizeLine; decide), fun r8 hr8 => ⟨(by show (1 : Nat) ≤ sizeLine; decide), fun l8 hl8 => ?_⟩⟩
   have f1 := same_new (o := HO.lst [.str (Str.ofString "a")]) hr8
   have f2 := same_new (o := HO.lst [.ref r8]) hl8
   have w1 := f2 _ _ (upd_same (H := H7) (a := r8) (o := HO.lst [.str (Str.ofString "a")]))
   have w2 := upd_same (H := upd H7 r8 (HO.lst [.str (Str.ofString "a")])) (a := l8) (o := HO.lst [.ref r8])
   have s78 := f1.trans f2
   generalize upd (upd H7 r8 (HO.lst [.str (Str.ofString "a")])) l8 (HO.lst [.ref r8]) = H8 at w1 w2 s78 ⊢
   refine ⟨l7, l8, _, _, rfl, rfl, s78 _ _ hl7, w2, Nat.le_trans (show es7.length + 1 ≤ 100 by omega) (by decide), fun O hO => ?_⟩
   have f3 := same_new (o := HO.lst (es7 ++ [.ref r8])) hO
   have q9 := upd_same (H := H8) (a := O) (o := HO.lst (es7 ++ [.ref r8]))
   have s69 := s7.trans (s78.trans f3)
   have tb9 : TabAt (upd H8 O (HO.lst (es7 ++ [.ref r8]))) (.ref O) (T ++ [[Str.ofString "a"]]) := ⟨O, _, rfl, q9, paired_app (paired_imp (fun a b h => RelRow.mono (s78.trans f3) h) pr7) (.cons ⟨r8, rfl, f3 _ _ w1⟩ .nil)⟩
   generalize upd H8 O (HO.lst (es7 ++ [.ref r8])) = H9 at q9 s69 tb9 ⊢
   clear w1 w2 s78 f1 f2 f3 hl7 rw7 pr7 hl8 hr8
   dsimp only [gName]
   refine seq_split (t := tIfS _ _ _) (fun σ' H' => Same H6 H' ∧ ∃ O T2, σ' = [some (.ref a), some (.ref t), some (.ref L), some (.str z), some (.ref lt), some (.ref O), none, none, none, none, none] ∧ TabAt H' (.ref O) T2 ∧ TabOk T2) ?_ (fun go => ?_)
   rotate_left
   · have hlt9 := s69 _ _ hlt
     refine ⟨_, rfl, (by decide), fun e he => ⟨_, _, _, rfl, rfl, SqL.of (same_new he _ _ hlt9), SqL.of upd_same, _, rfl, ?_⟩⟩
     have se := same_new (o := HO.lst []) he
     have s6e := s69.trans se
     have tbe := tb9.mono se
     have pre := paired_imp (fun a b h => RelRow.mono s6e h) pr6
     have hlte := s6e _ _ hlt
     generalize upd H9 e (HO.lst []) = He at s6e tbe pre hlte ⊢
     cases pre with
     | nil => exact iteF (go _ _ ⟨s6e, O, _, rfl, tbe, tab1 tokT (by omega) (by omega)⟩)
     | @cons e0 r0 es' T' h0 pre' =>
     have pre : Paired (RelRow He) (e0 :: es') (r0 :: T') := .cons h0 pre'
     refine iteT ?_
     refine ⟨_, rfl, lt, _, _, rfl, hlte, pre, by omega, fun l10 es10 H10 hl100 hl10 rw10 nd10 nl10 s10 => ?_⟩
     dsimp only [gName]
     cases rw10 with
     | @cons e1 _ es1 _ hb rw1 =>
     obtain ⟨b, rfl, hb0, hbv⟩ := hb
     have hr0 := (tokT.rows r0 (List.mem_cons_self ..)).lo
     cases r0 with
     | nil => exact absurd hr0 (by decide)
     | cons c0 r0 =>
     have hc0 : c0.length ≤ 400 := Nat.le_trans (cell_len (List.mem_cons_self ..)) (Nat.le_trans (row_sum (List.mem_cons_self ..)) tokT.sum)
     have nbl : b ≠ l10 := fun q => nl10 (by rw [q]; exact List.mem_cons_self ..)
     have nb1 : V.ref b ∉ es1 := (List.nodup_cons.mp nd10).1
     have ha0 : atI (V.ref b :: es1) ((0 : Nat) : Int) = some (.ref b) := atI_nat rfl
     have hv0 : atI ((c0 :: r0).map V.str) ((0 : Nat) : Int) = some (.str c0) := atI_nat rfl
     have al : (Str.ofString "a").length = 1 := by decide +kernel
     refine ⟨_, rfl, _, _, _, _, rfl, rfl, SqL.of hl10, ha0, _, _, _, _, rfl, rfl, SqL.of hbv, hv0, _, _, rfl, rfl, ?_, _, rfl, _, _, _, _, rfl, rfl, SqL.of hl10, ha0, ?_⟩
     · exact Nat.le_trans (show c0.length + (Str.ofString "a").length ≤ 1000 by omega) (by decide)
     have hix : ixN ((c0 :: r0).map V.str).length 0 = some 0 := by unfold ixN; rw [List.length_map, List.length_cons]; simp
     refine ⟨b, _, _, 0, rfl, rfl, hbv, hix, go _ _ ⟨same_set (s6e.free hb0) (s6e.trans s10), l10, ((c0 ++ Str.ofString "a") :: r0) :: T', rfl, ⟨l10, _, rfl, (upd_ne (Ne.symm nbl)).trans hl10, .cons ⟨b, rfl, upd_same⟩ (rws_row (Rws.but nb1 rw1))⟩, tab2 tokT (by omega)⟩⟩
   rintro σ' HA ⟨sA, O2, T2, rfl, tbO, tokO⟩
   have qA := sA _ _ q6
   have tpA := Tps.mono sA tp6
   have tbT : TabAt HA (.ref lt) T := ⟨lt, es, rfl, sA _ _ hlt, paired_imp (fun a b h => RelRow.mono sA h) pr6⟩
   have tlA := tpA.length
   clear tb9 q9 s69 pr6 hlt q6 tp6 rwT
   refine ⟨_, rfl, L, rfl, ⟨_, SqL.of qA⟩, fun D hD => ?_⟩
   refine comp_list (K := K) (a := L) (xs := .ref t :: xs1) (fun i ys τ J => (∃ v, τ = [v]) ∧ Same HA J ∧ J D = some (.lst ys) ∧ Mks C_Dialect J ys ((x :: cs1).take i)) ⟨⟨_, rfl⟩, same_new hD, upd_same, .nil⟩ (fun i ys τ J _ p => ⟨SqL.of (p.2.1 _ _ qA), p.2.2.1⟩) ?_ ?_
   · rintro i e ys τ J hi ⟨⟨v, rfl⟩, sJ, hJ, mkJ⟩
     obtain ⟨y, hy, ty, rfl, hty⟩ := paired_get tpA i e hi
     have hil : i < (x :: cs1).length := (List.getElem?_eq_some_iff.mp hy).1
     have hyl := mkJ.length
     rw [List.length_take] at hyl
     refine gyes ?_
     refine ⟨_, rfl, ty, y.1, y.2.1, y.2.2.1, y.2.2.2.a, y.2.2.2.b, y.2.2.2.c, y.2.2.2.d, rfl, sJ _ _ hty, gs4 y (List.mem_of_getElem? hy), fun m dm J3 hm0 hm s3 => ?_⟩
     have hJ3 := s3 _ _ hJ
     refine ⟨hJ3, Nat.lt_of_le_of_lt (show ys.length ≤ 100 by omega) (by decide), ⟨_, rfl⟩, same_set hD (sJ.trans s3), upd_same, ?_⟩
     rw [take_snocG hy]
     exact paired_app (Mks.but hJ3 (Mks.mono s3 mkJ)) (Mks.but hJ3 (.cons ⟨m, dm, rfl, hm⟩ .nil))
   rintro ms τ HB ⟨⟨v, rfl⟩, sB, hD2, mkB⟩
   rw [tlA, List.take_of_length_le (Nat.le_refl _)] at mkB
   cases mkB with
   | @cons e0 _ ms _ h0 mkB =>
   obtain ⟨y0, dy0, rfl, hy0⟩ := h0
   have qB := sB _ _ qA
   have tpB := Tps.mono sB tpA
   have tbOB := tbO.mono sB
   have tbTB := tbT.mono sB
   clear qA tpA tbO tbT
   dsimp only [gName]
   have hat0 : atI (V.ref y0 :: ms) ((0 : Nat) : Int) = some (.ref y0) := atI_nat rfl
   refine ⟨_, rfl, _, rfl, _, rfl, (by show (3 : Nat) ≤ sizeLine; decide), fun l11 hl11 => ⟨l11, rfl, ⟨_, SqL.of upd_same⟩, ?_⟩⟩
   have s11 := same_new (o := HO.lst [.ref lt, .ref O2, .ref lt]) hl11
   have q11 := upd_same (H := HB) (a := l11) (o := HO.lst [.ref lt, .ref O2, .ref lt])
   have hDC := s11 _ _ hD2; have hyC := s11 _ _ hy0; have mkC := Mks.mono s11 mkB; have qC := s11 _ _ qB; have tpC := Tps.mono s11 tpB
   have tbOC := tbOB.mono s11; have tbTC := tbTB.mono s11
   generalize upd HB l11 (HO.lst [.ref lt, .ref O2, .ref lt]) = HC at s11 q11 hDC hyC mkC qC tpC tbOC tbTC ⊢
   clear hD2 hy0 mkB qB tpB tbOB tbTB
   have gsT : ∀ c ∈ cs1, GdC c := fun c hc => gs4 c (List.mem_cons_of_mem _ hc)
   have gx := gs4 x (List.mem_cons_self ..)
   have hcl1 : cs1.length ≤ 20 := by rw [List.length_cons] at hcl4; omega
   have nl1 : (Str.ofString "\n").length = 1 := by decide +kernel
   have nlo : cellOk (Str.ofString "\n") := by show ∀ c ∈ _, _; decide +kernel
   have hsl := slice_ok (z := z) (lo := none) (hi := some (-1)) oz
   have hcut : cutV (V.ref y0 :: ms) (some 1) none = ms := cut_drop (V.ref y0 :: ms) 1 (by rw [List.length_cons]; omega)
   refine for_list (K := K) (a := l11) (xs := [.ref lt, .ref O2, .ref lt]) (fun i σ J => Same HC J ∧ ∃ v7 v8 v9 v10, σ = [some (.ref a), some (.ref t), some (.ref L), some (.str z), some (.ref lt), some (.ref O2), some (.ref D), v7, v8, v9, v10]) ⟨Same.refl _, _, _, _, _, rfl⟩ (fun i σ J _ q => SqL.of (q.1 _ _ q11)) ?_ ?_
   · rintro i e σ J hi ⟨sJ, v7, v8, v9, v10, rfl⟩
     obtain ⟨T3, tb3, tok3⟩ : ∃ T3, TabAt HC e T3 ∧ TabOk T3 := by
       have := List.mem_of_getElem? hi
       simp only [List.mem_cons, List.not_mem_nil, or_false] at this
       rcases this with rfl | rfl | rfl
       · exact ⟨_, tbTC, tokT⟩
       · exact ⟨_, tbOC, tokO⟩
       · exact ⟨_, tbTC, tokT⟩
     obtain ⟨l3, es3, rfl, h3, pr3⟩ := tb3
     have hn3 := tok3.n
     have prJ := paired_imp (fun a b h => RelRow.mono sJ h) pr3
     refine ⟨_, rfl, l3, es3, T3, rfl, sJ _ _ h3, prJ, by omega, fun hd esd J2 hd0 hdv rwd ndd nld s2 => ?_⟩
     have prd := rws_row rwd
     have sJ2 := sJ.trans s2
     dsimp only [gName]
     have hzs : z.length ≤ sizeLine := Nat.le_trans hzl (by decide)
     have hAl : (Txt.slice z none (some (-1))).length ≤ 100 := by have h1 := slice_len (z := z) (lo := none) (hi := some (-1)) rfl; have h2 := ix14 z.length (by omega); omega
     refine ⟨_, rfl, _, rfl, _, rfl, _, rfl, _, rfl, hzs, _, rfl, _, _, rfl, rfl, Nat.le_trans (show z.length + (Str.ofString "\n").length ≤ 100 by omega) (by decide), (by show (3 : Nat) ≤ sizeLine; decide), fun l4 hl4 => ⟨l4, rfl, ⟨_, SqL.of upd_same⟩, ?_⟩⟩
     have hitem : ∀ e ∈ [V.str z, .str (Txt.slice z none (some (-1))), .str (z ++ Str.ofString "\n")], ∃ y, e = .str y ∧ cellOk y ∧ y.length ≤ 100 := fun e he => by
       simp only [List.mem_cons, List.not_mem_nil, or_false] at he
       rcases he with rfl | rfl | rfl
       · exact ⟨_, rfl, oz, by omega⟩
       · exact ⟨_, rfl, hsl, hAl⟩
       · exact ⟨_, rfl, cell_app oz nlo, by rw [app_len]; omega⟩
     generalize [V.str z, .str (Txt.slice z none (some (-1))), .str (z ++ Str.ofString "\n")] = items at hitem ⊢
     have s4 := same_new (o := HO.lst items) hl4
     have q4 := upd_same (H := J2) (a := l4) (o := HO.lst items)
     have sJ4 := sJ2.trans s4
     have hd4 := s4 _ _ hdv
     have prd4 := paired_imp (fun a b h => RelRow.mono s4 h) prd
     generalize upd J2 l4 (HO.lst items) = J4 at s4 q4 sJ4 hd4 prd4 ⊢
     clear hdv prd rwd
     have call : ∀ (G : Hp) (v7 v10 : Option V) (e : V) (R : VK), Same J4 G → Knd G e → (∀ z, e = .str z → z.length ≤ 10000) → (∀ G', Same G G' → R (.bl (soleV x cs1 T3 e)) G') → tCall (sp_is_sole K C_Dialect) [] E0 (tCons (tOp (rIxL K) (tVar 6) (tC (.int 0))) (tCons (tVar 8) (tCons (tSl (rSlL K) (tVar 6) (tPart (tC (.int 1))) tNoPart) (tCons (tVar 9) tNil)))) [some (.ref a), some (.ref t), some (.ref L), some (.str z), some (.ref lt), some (.ref O2), some (.ref D), v7, some (.ref hd), some e, v10] G R := by
       intro G v7 v10 e R sG hk hb kk
       have sc := sJ4.trans sG
       have hDG := sc _ _ hDC
       refine ⟨_, rfl, _, _, _, _, rfl, rfl, SqL.of hDG, hat0, _, rfl, _, rfl, _, rfl, _, _, rfl, SqL.of hDG, fun lm hlm => ⟨_, rfl, ?_⟩⟩
       rw [hcut]
       have sm := same_new (o := HO.lst ms) hlm
       have s2 := sc.trans sm
       have s3 := sG.trans sm
       exact ⟨y0, dy0, hd, lm, esd, ms, T3, x, cs1, e, rfl, s2 _ _ hyC, gx, s3 _ _ hd4, paired_imp (fun a b h => RelRow.mono s3 h) prd4, upd_same, Mks.mono s2 mkC, gsT, hcl1, hk.mono sm, hb, fun G' s' => kk G' (sm.trans s')⟩
     refine for_list (K := K) (a := l4) (xs := items) (fun i σ G => Same J4 G ∧ ∃ v9 v10, σ = [some (.ref a), some (.ref t), some (.ref L), some (.str z), some (.ref lt), some (.ref O2), some (.ref D), some (.ref l3), some (.ref hd), v9, v10]) ⟨Same.refl _, _, _, rfl⟩ (fun i σ G _ q => SqL.of (q.1 _ _ q4)) ?_ ?_
     · rintro i2 e2 σ G hi2 ⟨sG, v9, v10, rfl⟩
       obtain ⟨y, rfl, oy, hyl⟩ := hitem e2 (List.mem_of_getElem? hi2)
       dsimp only [gName]
       refine call G _ _ (.str y) _ sG (.str y) (fun z' e => by cases e; omega) fun G2 sG2 => ?_
       dsimp only [gName]
       have sC2 := sJ4.trans (sG.trans sG2)
       refine ⟨_, rfl, _, _, _, true, rfl, .bl _, .inl ⟨_, rfl, rfl⟩, true, rfl, iteF ?_⟩
       have h3c := sC2 _ _ h3
       have pr3c := paired_imp (fun a b h => RelRow.mono sC2 h) pr3
       refine ⟨_, rfl, _, rfl, _, rfl, _, rfl, L, l3, y, _, es3, T3, x, cs1, rfl, sC2 _ _ qC, Tps.mono sC2 tpC, gs4, h3c, pr3c, tok3, fun G3 sG3 => ?_⟩
       have eS : soleV x cs1 T3 (.str y) = soleZ x cs1 T3 y := by show (isT (.str y) && _) = _; rw [isT_yes oy (by omega)]; rfl
       rw [eS]
       refine ⟨rfl, _, rfl, rdN rfl ?_⟩
       have sG23 := sG2.trans sG3
       exact ⟨_, rfl, _, rfl, tabtop ((sG.trans sG23) _ _ hd4) (sG3 _ _ h3c) (paired_imp (fun a b h => RelRow.mono (sG.trans sG23) h) prd4) (paired_imp (fun a b h => RelRow.mono sG3 h) pr3c), _, rfl, iteF ⟨sG.trans sG23, _, _, rfl⟩⟩
     · rintro σ G ⟨sG, v9, v10, rfl⟩
       refine ⟨_, rfl, (by show (1 : Nat) ≤ sizeLine; decide), fun u1 hu1 => ⟨_, rfl, (by show (1 : Nat) ≤ sizeLine; decide), fun u2 hu2 => ⟨(by show (1 : Nat) ≤ sizeLine; decide), fun u3 hu3 => ⟨(by show (6 : Nat) ≤ sizeLine; decide), fun l5 hl5 => ⟨l5, rfl, ⟨_, SqL.of upd_same⟩, ?_⟩⟩⟩⟩⟩
       have g1 := same_new (o := HO.lst [.str z]) hu1
       have g2 := same_new (o := HO.tup [.str z]) hu2
       have g3 := same_new (o := HO.lst [.str (Str.ofString "\n")]) hu3
       have g5 := same_new (o := HO.lst [.non, .int 7, .bl true, .ref u1, .ref u2, .ref u3]) hl5
       have k1 := (g2.trans (g3.trans g5)) _ _ (upd_same (H := G) (a := u1) (o := HO.lst [.str z]))
       have k2 := (g3.trans g5) _ _ (upd_same (H := upd G u1 (HO.lst [.str z])) (a := u2) (o := HO.tup [.str z]))
       have k3 := g5 _ _ (upd_same (H := upd (upd G u1 (HO.lst [.str z])) u2 (HO.tup [.str z])) (a := u3) (o := HO.lst [.str (Str.ofString "\n")]))
       have k5 := upd_same (H := upd (upd (upd G u1 (HO.lst [.str z])) u2 (HO.tup [.str z])) u3 (HO.lst [.str (Str.ofString "\n")])) (a := l5) (o := HO.lst [.non, .int 7, .bl true, .ref u1, .ref u2, .ref u3])
       have sg := sG.trans (g1.trans (g2.trans (g3.trans g5)))
       generalize upd (upd (upd (upd G u1 (HO.lst [.str z])) u2 (HO.tup [.str z])) u3 (HO.lst [.str (Str.ofString "\n")])) l5 (HO.lst [.non, .int 7, .bl true, .ref u1, .ref u2, .ref u3]) = G5 at k1 k2 k3 k5 sg ⊢
       have hit6 : ∀ e ∈ [V.non, .int 7, .bl true, .ref u1, .ref u2, .ref u3], Knd G5 e ∧ soleV x cs1 T3 e = false ∧ ∀ z, e = .str z → z.length ≤ 10000 := fun e he => by
         simp only [List.mem_cons, List.not_mem_nil, or_false] at he
         rcases he with rfl | rfl | rfl | rfl | rfl | rfl
         · exact ⟨.non, rfl, fun z q => nomatch q⟩
         · exact ⟨.int _, rfl, fun z q => nomatch q⟩
         · exact ⟨.bl _, rfl, fun z q => nomatch q⟩
         · exact ⟨.lst k1 rfl, rfl, fun z q => nomatch q⟩
         · exact ⟨.tup k2 rfl, rfl, fun z q => nomatch q⟩
         · exact ⟨.lst k3 rfl, rfl, fun z q => nomatch q⟩
       generalize [V.non, .int 7, .bl true, .ref u1, .ref u2, .ref u3] = it6 at hit6 k5 ⊢
       refine for_list (K := K) (a := l5) (xs := it6) (fun i σ G => Same G5 G ∧ ∃ v9 v10, σ = [some (.ref a), some (.ref t), some (.ref L), some (.str z), some (.ref lt), some (.ref O2), some (.ref D), some (.ref l3), some (.ref hd), v9, v10]) ⟨Same.refl _, _, _, rfl⟩ (fun i σ G _ q => SqL.of (q.1 _ _ k5)) ?_ ?_
       · rintro i6 e6 σ G6 hi6 ⟨sG6, v9', v10', rfl⟩
         obtain ⟨kn, so, bn⟩ := hit6 e6 (List.mem_of_getElem? hi6)
         dsimp only [gName]
         refine call G6 _ _ e6 _ (sg.trans sG6) (kn.mono sG6) bn fun G7 sG7 => ?_
         rw [so]
         exact ⟨_, _, rfl, rfl, _, rfl, iteF ⟨sG6.trans sG7, _, _, rfl⟩⟩
       · rintro σ G6 ⟨sG6, v9', v10', rfl⟩
         exact ⟨sJ4.trans (sg.trans sG6), _, _, _, _, rfl⟩
   · rintro σ J ⟨sJ, v7, v8, v9, v10, rfl⟩
     obtain ⟨lt', es', e', hltv, prT⟩ := tbTC
     cases e'
     have hDJ := sJ _ _ hDC
     have bl1 : (Str.ofString " ").length = 1 := by decide +kernel
     have rl := rep_len (Str.ofString " ") 2001
     rw [bl1, Nat.mul_one] at rl
     refine ⟨_, rfl, _, _, _, _, rfl, rfl, SqL.of hDJ, hat0, _, rfl, _, rfl, _, rfl, _, _, rfl, SqL.of hDJ, fun lm hlm => ⟨_, _, rfl, rfl, (by omega), (by omega), (by decide), (by omega), _, rfl, _, _, rfl, rfl, ?_, ?_⟩⟩
     · exact Nat.le_trans (show (repS (Str.ofString " ") 2001).length + z.length ≤ 10000 by omega) (by decide)
     rw [hcut]
     have sm := same_new (o := HO.lst ms) hlm
     have s2 := sJ.trans sm
     have al := app_len (repS (Str.ofString " ") 2001) z
     have hT : isT (.str (repS (Str.ofString " ") 2001 ++ z)) = false := by
       show (decide ((repS (Str.ofString " ") 2001 ++ z).length ≤ 2000) && _) = false
       rw [decide_eq_false (by omega)]; rfl
     refine ⟨y0, dy0, lt, lm, es', ms, T, x, cs1, _, rfl, s2 _ _ hyC, gx, s2 _ _ hltv, paired_imp (fun a b h => RelRow.mono s2 h) prT, upd_same, Mks.mono s2 mkC, gsT, hcl1, .str _, (fun z' e => by cases e; show (repS (Str.ofString " ") 2001 ++ z).length ≤ 10000; omega), fun G' s' => ?_⟩
     rw [show soleV x cs1 T (.str (repS (Str.ofString " ") (Int.toNat 2001) ++ z)) = false from sole_no hT]
     exact ⟨_, _, rfl, rfl, k _⟩
end
end
theorem all_mk {l : PySem.W.OpenLaw} {w : World} {K : PySem.W.Frag} {h : Heap} {mg : Str → Option Value} {fa f_is_printable f_has_signs_alone f_is_text f_are_unlike_signs f_Dialect___init__ f_Dialect_told f_dialect_of f_step_at_beginning f_step_in_plain f_step_within f_step_behind f_step_in_doubt f_step_freed f_Turn___init__ f_Turn_step f_check_text f_walk f_end_of f_table_of f_reading_of f_is_sole f__law_cell_at f__law_mixed f__law_number f__law_some f__law_menus f__law_told f__law_made f__law_open f__law_step f__law_near f__law_others f__law_signs f__law_tokens f__law_led f__law_reads f__law_sole f__law_copy f__law_text f__law_table_of f_law C_Dialect C_Turn a_START : Addr} {z_LINE : Str} {dt_Dialect___init__ : Addr} (X : K.In h) (G : h.Ns mainGlobals mg) (hfa : mg "law" = some (.ref fa))
   (aC_Dialect : PySem.W.nsIn K mainGlobals "Dialect" = some (some (.ref C_Dialect)))
   (aC_Turn : PySem.W.nsIn K mainGlobals "Turn" = some (some (.ref C_Turn)))
   {od0 an0 : Option Addr} {sl0 : Array (Option Value)} {oc0 kV0 dc0 pm0 cd0 ct0 : Value}
   (a0 : PySem.W.nsIn K mainGlobals "is_printable" = some (some (.ref f_is_printable)))
   (l0 : K.lookup f_is_printable = some ⟨oc0, od0, .func (PySem.W.fnOf "is_printable" "is_printable" (defArgs s_is_printable) (defBody s_is_printable) (defScope s_is_printable) .none kV0 dc0 pm0 an0 cd0 ct0), sl0⟩) (c0 : PySem.W.codeIn K cd0 "is_printable" = true) (k0 : PySem.W.keepIn K (.ref f_is_printable) = true)
   {od1 an1 : Option Addr} {sl1 : Array (Option Value)} {oc1 kV1 dc1 pm1 cd1 ct1 : Value}
   (a1 : PySem.W.nsIn K mainGlobals "has_signs_alone" = some (some (.ref f_has_signs_alone)))
   (l1 : K.lookup f_has_signs_alone = some ⟨oc1, od1, .func (PySem.W.fnOf "has_signs_alone" "has_signs_alone" (defArgs s_has_signs_alone) (defBody s_has_signs_alone) (defScope s_has_signs_alone) .none kV1 dc1 pm1 an1 cd1 ct1), sl1⟩) (c1 : PySem.W.codeIn K cd1 "has_signs_alone" = true) (k1 : PySem.W.keepIn K (.ref f_has_signs_alone) = true)
   {od2 an2 : Option Addr} {sl2 : Array (Option Value)} {oc2 kV2 dc2 pm2 cd2 ct2 : Value}
   (a2 : PySem.W.nsIn K mainGlobals "is_text" = some (some (.ref f_is_text)))
   (l2 : K.lookup f_is_text = some ⟨oc2, od2, .func (PySem.W.fnOf "is_text" "is_text" (defArgs s_is_text) (defBody s_is_text) (defScope s_is_text) .none kV2 dc2 pm2 an2 cd2 ct2), sl2⟩) (c2 : PySem.W.codeIn K cd2 "is_text" = true) (k2 : PySem.W.keepIn K (.ref f_is_text) = true)
   {od3 an3 : Option Addr} {sl3 : Array (Option Value)} {oc3 kV3 dc3 pm3 cd3 ct3 : Value}
   (a3 : PySem.W.nsIn K mainGlobals "are_unlike_signs" = some (some (.ref f_are_unlike_signs)))
   (l3 : K.lookup f_are_unlike_signs = some ⟨oc3, od3, .func (PySem.W.fnOf "are_unlike_signs" "are_unlike_signs" (defArgs s_are_unlike_signs) (defBody s_are_unlike_signs) (defScope s_are_unlike_signs) .none kV3 dc3 pm3 an3 cd3 ct3), sl3⟩) (c3 : PySem.W.codeIn K cd3 "are_unlike_signs" = true) (k3 : PySem.W.keepIn K (.ref f_are_unlike_signs) = true)
   {od4 an4 : Option Addr} {sl4 : Array (Option Value)} {oc4 kV4 dc4 pm4 cd4 ct4 : Value}
   (a4 : PySem.W.findIn K (.ref C_Dialect) "__init__" = some (some (.ref f_Dialect___init__))) (i4 : PySem.W.isFn K (.ref f_Dialect___init__) = true)
   (l4 : K.lookup f_Dialect___init__ = some ⟨oc4, od4, .func (PySem.W.fnOf "__init__" "Dialect.__init__" (defArgs s_Dialect___init__) (defBody s_Dialect___init__) (defScope s_Dialect___init__) (.ref dt_Dialect___init__) kV4 dc4 pm4 an4 cd4 ct4), sl4⟩) (c4 : PySem.W.codeIn K cd4 "Dialect.__init__" = true) (k4 : PySem.W.keepIn K (.ref f_Dialect___init__) = true)
   {od_d4 : Option Addr} {n_d4 : Nat} {sl_d4 : Array (Option Value)} {td4_0 td4_1 : Tok} (d4 : K.lookup dt_Dialect___init__ = some ⟨.type "tuple", od_d4, .seq #[.str (Str.ofString "") td4_0, .str (Str.ofString "") td4_1, .bool false, .bool false, .bool false, .bool false] n_d4, sl_d4⟩)
   {od5 an5 : Option Addr} {sl5 : Array (Option Value)} {oc5 kV5 dc5 pm5 cd5 ct5 : Value}
   (a5 : PySem.W.findIn K (.ref C_Dialect) "told" = some (some (.ref f_Dialect_told))) (i5 : PySem.W.isFn K (.ref f_Dialect_told) = true)
   (l5 : K.lookup f_Dialect_told = some ⟨oc5, od5, .func (PySem.W.fnOf "told" "Dialect.told" (defArgs s_Dialect_told) (defBody s_Dialect_told) (defScope s_Dialect_told) .none kV5 dc5 pm5 an5 cd5 ct5), sl5⟩) (c5 : PySem.W.codeIn K cd5 "Dialect.told" = true) (k5 : PySem.W.keepIn K (.ref f_Dialect_told) = true)
   {od6 an6 : Option Addr} {sl6 : Array (Option Value)} {oc6 kV6 dc6 pm6 cd6 ct6 : Value}
   (a6 : PySem.W.nsIn K mainGlobals "dialect_of" = some (some (.ref f_dialect_of)))
   (l6 : K.lookup f_dialect_of = some ⟨oc6, od6, .func (PySem.W.fnOf "dialect_of" "dialect_of" (defArgs s_dialect_of) (defBody s_dialect_of) (defScope s_dialect_of) .none kV6 dc6 pm6 an6 cd6 ct6), sl6⟩) (c6 : PySem.W.codeIn K cd6 "dialect_of" = true) (k6 : PySem.W.keepIn K (.ref f_dialect_of) = true)
   {od7 an7 : Option Addr} {sl7 : Array (Option Value)} {oc7 kV7 dc7 pm7 cd7 ct7 : Value}
   (a7 : PySem.W.nsIn K mainGlobals "step_at_beginning" = some (some (.ref f_step_at_beginning)))
   (l7 : K.lookup f_step_at_beginning = some ⟨oc7, od7, .func (PySem.W.fnOf "step_at_beginning" "step_at_beginning" (defArgs s_step_at_beginning) (defBody s_step_at_beginning) (defScope s_step_at_beginning) .none kV7 dc7 pm7 an7 cd7 ct7), sl7⟩) (c7 : PySem.W.codeIn K cd7 "step_at_beginning" = true) (k7 : PySem.W.keepIn K (.ref f_step_at_beginning) = true)
   {od8 an8 : Option Addr} {sl8 : Array (Option Value)} {oc8 kV8 dc8 pm8 cd8 ct8 : Value}
   (a8 : PySem.W.nsIn K mainGlobals "step_in_plain" = some (some (.ref f_step_in_plain)))
   (l8 : K.lookup f_step_in_plain = some ⟨oc8, od8, .func (PySem.W.fnOf "step_in_plain" "step_in_plain" (defArgs s_step_in_plain) (defBody s_step_in_plain) (defScope s_step_in_plain) .none kV8 dc8 pm8 an8 cd8 ct8), sl8⟩) (c8 : PySem.W.codeIn K cd8 "step_in_plain" = true) (k8 : PySem.W.keepIn K (.ref f_step_in_plain) = true)
   {od9 an9 : Option Addr} {sl9 : Array (Option Value)} {oc9 kV9 dc9 pm9 cd9 ct9 : Value}
   (a9 : PySem.W.nsIn K mainGlobals "step_within" = some (some (.ref f_step_within)))
   (l9 : K.lookup f_step_within = some ⟨oc9, od9, .func (PySem.W.fnOf "step_within" "step_within" (defArgs s_step_within) (defBody s_step_within) (defScope s_step_within) .none kV9 dc9 pm9 an9 cd9 ct9), sl9⟩) (c9 : PySem.W.codeIn K cd9 "step_within" = true) (k9 : PySem.W.keepIn K (.ref f_step_within) = true)
   {od10 an10 : Option Addr} {sl10 : Array (Option Value)} {oc10 kV10 dc10 pm10 cd10 ct10 : Value}
   (a10 : PySem.W.nsIn K mainGlobals "step_behind" = some (some (.ref f_step_behind)))
   (l10 : K.lookup f_step_behind = some ⟨oc10, od10, .func (PySem.W.fnOf "step_behind" "step_behind" (defArgs s_step_behind) (defBody s_step_behind) (defScope s_step_behind) .none kV10 dc10 pm10 an10 cd10 ct10), sl10⟩) (c10 : PySem.W.codeIn K cd10 "step_behind" = true) (k10 : PySem.W.keepIn K (.ref f_step_behind) = true)
   {od11 an11 : Option Addr} {sl11 : Array (Option Value)} {oc11 kV11 dc11 pm11 cd11 ct11 : Value}
   (a11 : PySem.W.nsIn K mainGlobals "step_in_doubt" = some (some (.ref f_step_in_doubt)))
   (l11 : K.lookup f_step_in_doubt = some ⟨oc11, od11, .func (PySem.W.fnOf "step_in_doubt" "step_in_doubt" (defArgs s_step_in_doubt) (defBody s_step_in_doubt) (defScope s_step_in_doubt) .none kV11 dc11 pm11 an11 cd11 ct11), sl11⟩) (c11 : PySem.W.codeIn K cd11 "step_in_doubt" = true) (k11 : PySem.W.keepIn K (.ref f_step_in_doubt) = true)
   {od12 an12 : Option Addr} {sl12 : Array (Option Value)} {oc12 kV12 dc12 pm12 cd12 ct12 : Value}
   (a12 : PySem.W.nsIn K mainGlobals "step_freed" = some (some (.ref f_step_freed)))
   (l12 : K.lookup f_step_freed = some ⟨oc12, od12, .func (PySem.W.fnOf "step_freed" "step_freed" (defArgs s_step_freed) (defBody s_step_freed) (defScope s_step_freed) .none kV12 dc12 pm12 an12 cd12 ct12), sl12⟩) (c12 : PySem.W.codeIn K cd12 "step_freed" = true) (k12 : PySem.W.keepIn K (.ref f_step_freed) = true)
   {od13 an13 : Option Addr} {sl13 : Array (Option Value)} {oc13 kV13 dc13 pm13 cd13 ct13 : Value}
   (a13 : PySem.W.findIn K (.ref C_Turn) "__init__" = some (some (.ref f_Turn___init__))) (i13 : PySem.W.isFn K (.ref f_Turn___init__) = true)
   (l13 : K.lookup f_Turn___init__ = some ⟨oc13, od13, .func (PySem.W.fnOf "__init__" "Turn.__init__" (defArgs s_Turn___init__) (defBody s_Turn___init__) (defScope s_Turn___init__) .none kV13 dc13 pm13 an13 cd13 ct13), sl13⟩) (c13 : PySem.W.codeIn K cd13 "Turn.__init__" = true) (k13 : PySem.W.keepIn K (.ref f_Turn___init__) = true)
   {od14 an14 : Option Addr} {sl14 : Array (Option Value)} {oc14 kV14 dc14 pm14 cd14 ct14 : Value}
   (a14 : PySem.W.findIn K (.ref C_Turn) "step" = some (some (.ref f_Turn_step))) (i14 : PySem.W.isFn K (.ref f_Turn_step) = true)
   (l14 : K.lookup f_Turn_step = some ⟨oc14, od14, .func (PySem.W.fnOf "step" "Turn.step" (defArgs s_Turn_step) (defBody s_Turn_step) (defScope s_Turn_step) .none kV14 dc14 pm14 an14 cd14 ct14), sl14⟩) (c14 : PySem.W.codeIn K cd14 "Turn.step" = true) (k14 : PySem.W.keepIn K (.ref f_Turn_step) = true)
   {od15 an15 : Option Addr} {sl15 : Array (Option Value)} {oc15 kV15 dc15 pm15 cd15 ct15 : Value}
   (a15 : PySem.W.nsIn K mainGlobals "check_text" = some (some (.ref f_check_text)))
   (l15 : K.lookup f_check_text = some ⟨oc15, od15, .func (PySem.W.fnOf "check_text" "check_text" (defArgs s_check_text) (defBody s_check_text) (defScope s_check_text) .none kV15 dc15 pm15 an15 cd15 ct15), sl15⟩) (c15 : PySem.W.codeIn K cd15 "check_text" = true) (k15 : PySem.W.keepIn K (.ref f_check_text) = true)
   {od16 an16 : Option Addr} {sl16 : Array (Option Value)} {oc16 kV16 dc16 pm16 cd16 ct16 : Value}
   (a16 : PySem.W.nsIn K mainGlobals "walk" = some (some (.ref f_walk)))
   (l16 : K.lookup f_walk = some ⟨oc16, od16, .func (PySem.W.fnOf "walk" "walk" (defArgs s_walk) (defBody s_walk) (defScope s_walk) .none kV16 dc16 pm16 an16 cd16 ct16), sl16⟩) (c16 : PySem.W.codeIn K cd16 "walk" = true) (k16 : PySem.W.keepIn K (.ref f_walk) = true)
   {od17 an17 : Option Addr} {sl17 : Array (Option Value)} {oc17 kV17 dc17 pm17 cd17 ct17 : Value}
   (a17 : PySem.W.nsIn K mainGlobals "end_of" = some (some (.ref f_end_of)))
   (l17 : K.lookup f_end_of = some ⟨oc17, od17, .func (PySem.W.fnOf "end_of" "end_of" (defArgs s_end_of) (defBody s_end_of) (defScope s_end_of) .none kV17 dc17 pm17 an17 cd17 ct17), sl17⟩) (c17 : PySem.W.codeIn K cd17 "end_of" = true) (k17 : PySem.W.keepIn K (.ref f_end_of) = true)
   {od18 an18 : Option Addr} {sl18 : Array (Option Value)} {oc18 kV18 dc18 pm18 cd18 ct18 : Value}
   (a18 : PySem.W.nsIn K mainGlobals "table_of" = some (some (.ref f_table_of)))
   (l18 : K.lookup f_table_of = some ⟨oc18, od18, .func (PySem.W.fnOf "table_of" "table_of" (defArgs s_table_of) (defBody s_table_of) (defScope s_table_of) .none kV18 dc18 pm18 an18 cd18 ct18), sl18⟩) (c18 : PySem.W.codeIn K cd18 "table_of" = true) (k18 : PySem.W.keepIn K (.ref f_table_of) = true)
   {od19 an19 : Option Addr} {sl19 : Array (Option Value)} {oc19 kV19 dc19 pm19 cd19 ct19 : Value}
   (a19 : PySem.W.nsIn K mainGlobals "reading_of" = some (some (.ref f_reading_of)))
   (l19 : K.lookup f_reading_of = some ⟨oc19, od19, .func (PySem.W.fnOf "reading_of" "reading_of" (defArgs s_reading_of) (defBody s_reading_of) (defScope s_reading_of) .none kV19 dc19 pm19 an19 cd19 ct19), sl19⟩) (c19 : PySem.W.codeIn K cd19 "reading_of" = true) (k19 : PySem.W.keepIn K (.ref f_reading_of) = true)
   {od20 an20 : Option Addr} {sl20 : Array (Option Value)} {oc20 kV20 dc20 pm20 cd20 ct20 : Value}
   (a20 : PySem.W.nsIn K mainGlobals "is_sole" = some (some (.ref f_is_sole)))
   (l20 : K.lookup f_is_sole = some ⟨oc20, od20, .func (PySem.W.fnOf "is_sole" "is_sole" (defArgs s_is_sole) (defBody s_is_sole) (defScope s_is_sole) .none kV20 dc20 pm20 an20 cd20 ct20), sl20⟩) (c20 : PySem.W.codeIn K cd20 "is_sole" = true) (k20 : PySem.W.keepIn K (.ref f_is_sole) = true)
   {od21 an21 : Option Addr} {sl21 : Array (Option Value)} {oc21 kV21 dc21 pm21 cd21 ct21 : Value}
   (a21 : PySem.W.nsIn K mainGlobals "_law_cell_at" = some (some (.ref f__law_cell_at)))
   (l21 : K.lookup f__law_cell_at = some ⟨oc21, od21, .func (PySem.W.fnOf "_law_cell_at" "_law_cell_at" (defArgs s__law_cell_at) (defBody s__law_cell_at) (defScope s__law_cell_at) .none kV21 dc21 pm21 an21 cd21 ct21), sl21⟩) (c21 : PySem.W.codeIn K cd21 "_law_cell_at" = true) (k21 : PySem.W.keepIn K (.ref f__law_cell_at) = true)
   {od22 an22 : Option Addr} {sl22 : Array (Option Value)} {oc22 kV22 dc22 pm22 cd22 ct22 : Value}
   (a22 : PySem.W.nsIn K mainGlobals "_law_mixed" = some (some (.ref f__law_mixed)))
   (l22 : K.lookup f__law_mixed = some ⟨oc22, od22, .func (PySem.W.fnOf "_law_mixed" "_law_mixed" (defArgs s__law_mixed) (defBody s__law_mixed) (defScope s__law_mixed) .none kV22 dc22 pm22 an22 cd22 ct22), sl22⟩) (c22 : PySem.W.codeIn K cd22 "_law_mixed" = true) (k22 : PySem.W.keepIn K (.ref f__law_mixed) = true)
   {od23 an23 : Option Addr} {sl23 : Array (Option Value)} {oc23 kV23 dc23 pm23 cd23 ct23 : Value}
   (a23 : PySem.W.nsIn K mainGlobals "_law_number" = some (some (.ref f__law_number)))
   (l23 : K.lookup f__law_number = some ⟨oc23, od23, .func (PySem.W.fnOf "_law_number" "_law_number" (defArgs s__law_number) (defBody s__law_number) (defScope s__law_number) .none kV23 dc23 pm23 an23 cd23 ct23), sl23⟩) (c23 : PySem.W.codeIn K cd23 "_law_number" = true) (k23 : PySem.W.keepIn K (.ref f__law_number) = true)
   {od24 an24 : Option Addr} {sl24 : Array (Option Value)} {oc24 kV24 dc24 pm24 cd24 ct24 : Value}
   (a24 : PySem.W.nsIn K mainGlobals "_law_some" = some (some (.ref f__law_some)))
   (l24 : K.lookup f__law_some = some ⟨oc24, od24, .func (PySem.W.fnOf "_law_some" "_law_some" (defArgs s__law_some) (defBody s__law_some) (defScope s__law_some) .none kV24 dc24 pm24 an24 cd24 ct24), sl24⟩) (c24 : PySem.W.codeIn K cd24 "_law_some" = true) (k24 : PySem.W.keepIn K (.ref f__law_some) = true)
   {od25 an25 : Option Addr} {sl25 : Array (Option Value)} {oc25 kV25 dc25 pm25 cd25 ct25 : Value}
   (a25 : PySem.W.nsIn K mainGlobals "_law_menus" = some (some (.ref f__law_menus)))
   (l25 : K.lookup f__law_menus = some ⟨oc25, od25, .func (PySem.W.fnOf "_law_menus" "_law_menus" (defArgs s__law_menus) (defBody s__law_menus) (defScope s__law_menus) .none kV25 dc25 pm25 an25 cd25 ct25), sl25⟩) (c25 : PySem.W.codeIn K cd25 "_law_menus" = true) (k25 : PySem.W.keepIn K (.ref f__law_menus) = true)
   {od26 an26 : Option Addr} {sl26 : Array (Option Value)} {oc26 kV26 dc26 pm26 cd26 ct26 : Value}
   (a26 : PySem.W.nsIn K mainGlobals "_law_told" = some (some (.ref f__law_told)))
   (l26 : K.lookup f__law_told = some ⟨oc26, od26, .func (PySem.W.fnOf "_law_told" "_law_told" (defArgs s__law_told) (defBody s__law_told) (defScope s__law_told) .none kV26 dc26 pm26 an26 cd26 ct26), sl26⟩) (c26 : PySem.W.codeIn K cd26 "_law_told" = true) (k26 : PySem.W.keepIn K (.ref f__law_told) = true)
   {od27 an27 : Option Addr} {sl27 : Array (Option Value)} {oc27 kV27 dc27 pm27 cd27 ct27 : Value}
   (a27 : PySem.W.nsIn K mainGlobals "_law_made" = some (some (.ref f__law_made)))
   (l27 : K.lookup f__law_made = some ⟨oc27, od27, .func (PySem.W.fnOf "_law_made" "_law_made" (defArgs s__law_made) (defBody s__law_made) (defScope s__law_made) .none kV27 dc27 pm27 an27 cd27 ct27), sl27⟩) (c27 : PySem.W.codeIn K cd27 "_law_made" = true) (k27 : PySem.W.keepIn K (.ref f__law_made) = true)
   {od28 an28 : Option Addr} {sl28 : Array (Option Value)} {oc28 kV28 dc28 pm28 cd28 ct28 : Value}
   (a28 : PySem.W.nsIn K mainGlobals "_law_open" = some (some (.ref f__law_open)))
   (l28 : K.lookup f__law_open = some ⟨oc28, od28, .func (PySem.W.fnOf "_law_open" "_law_open" (defArgs s__law_open) (defBody s__law_open) (defScope s__law_open) .none kV28 dc28 pm28 an28 cd28 ct28), sl28⟩) (c28 : PySem.W.codeIn K cd28 "_law_open" = true) (k28 : PySem.W.keepIn K (.ref f__law_open) = true)
   {od29 an29 : Option Addr} {sl29 : Array (Option Value)} {oc29 kV29 dc29 pm29 cd29 ct29 : Value}
   (a29 : PySem.W.nsIn K mainGlobals "_law_step" = some (some (.ref f__law_step)))
   (l29 : K.lookup f__law_step = some ⟨oc29, od29, .func (PySem.W.fnOf "_law_step" "_law_step" (defArgs s__law_step) (defBody s__law_step) (defScope s__law_step) .none kV29 dc29 pm29 an29 cd29 ct29), sl29⟩) (c29 : PySem.W.codeIn K cd29 "_law_step" = true) (k29 : PySem.W.keepIn K (.ref f__law_step) = true)
   {od30 an30 : Option Addr} {sl30 : Array (Option Value)} {oc30 kV30 dc30 pm30 cd30 ct30 : Value}
   (a30 : PySem.W.nsIn K mainGlobals "_law_near" = some (some (.ref f__law_near)))
   (l30 : K.lookup f__law_near = some ⟨oc30, od30, .func (PySem.W.fnOf "_law_near" "_law_near" (defArgs s__law_near) (defBody s__law_near) (defScope s__law_near) .none kV30 dc30 pm30 an30 cd30 ct30), sl30⟩) (c30 : PySem.W.codeIn K cd30 "_law_near" = true) (k30 : PySem.W.keepIn K (.ref f__law_near) = true)
   {od31 an31 : Option Addr} {sl31 : Array (Option Value)} {oc31 kV31 dc31 pm31 cd31 ct31 : Value}
   (a31 : PySem.W.nsIn K mainGlobals "_law_others" = some (some (.ref f__law_others)))
   (l31 : K.lookup f__law_others = some ⟨oc31, od31, .func (PySem.W.fnOf "_law_others" "_law_others" (defArgs s__law_others) (defBody s__law_others) (defScope s__law_others) .none kV31 dc31 pm31 an31 cd31 ct31), sl31⟩) (c31 : PySem.W.codeIn K cd31 "_law_others" = true) (k31 : PySem.W.keepIn K (.ref f__law_others) = true)
   {od32 an32 : Option Addr} {sl32 : Array (Option Value)} {oc32 kV32 dc32 pm32 cd32 ct32 : Value}
   (a32 : PySem.W.nsIn K mainGlobals "_law_signs" = some (some (.ref f__law_signs)))
   (l32 : K.lookup f__law_signs = some ⟨oc32, od32, .func (PySem.W.fnOf "_law_signs" "_law_signs" (defArgs s__law_signs) (defBody s__law_signs) (defScope s__law_signs) .none kV32 dc32 pm32 an32 cd32 ct32), sl32⟩) (c32 : PySem.W.codeIn K cd32 "_law_signs" = true) (k32 : PySem.W.keepIn K (.ref f__law_signs) = true)
   {od33 an33 : Option Addr} {sl33 : Array (Option Value)} {oc33 kV33 dc33 pm33 cd33 ct33 : Value}
   (a33 : PySem.W.nsIn K mainGlobals "_law_tokens" = some (some (.ref f__law_tokens)))
   (l33 : K.lookup f__law_tokens = some ⟨oc33, od33, .func (PySem.W.fnOf "_law_tokens" "_law_tokens" (defArgs s__law_tokens) (defBody s__law_tokens) (defScope s__law_tokens) .none kV33 dc33 pm33 an33 cd33 ct33), sl33⟩) (c33 : PySem.W.codeIn K cd33 "_law_tokens" = true) (k33 : PySem.W.keepIn K (.ref f__law_tokens) = true)
   {od34 an34 : Option Addr} {sl34 : Array (Option Value)} {oc34 kV34 dc34 pm34 cd34 ct34 : Value}
   (a34 : PySem.W.nsIn K mainGlobals "_law_led" = some (some (.ref f__law_led)))
   (l34 : K.lookup f__law_led = some ⟨oc34, od34, .func (PySem.W.fnOf "_law_led" "_law_led" (defArgs s__law_led) (defBody s__law_led) (defScope s__law_led) .none kV34 dc34 pm34 an34 cd34 ct34), sl34⟩) (c34 : PySem.W.codeIn K cd34 "_law_led" = true) (k34 : PySem.W.keepIn K (.ref f__law_led) = true)
   {od35 an35 : Option Addr} {sl35 : Array (Option Value)} {oc35 kV35 dc35 pm35 cd35 ct35 : Value}
   (a35 : PySem.W.nsIn K mainGlobals "_law_reads" = some (some (.ref f__law_reads)))
   (l35 : K.lookup f__law_reads = some ⟨oc35, od35, .func (PySem.W.fnOf "_law_reads" "_law_reads" (defArgs s__law_reads) (defBody s__law_reads) (defScope s__law_reads) .none kV35 dc35 pm35 an35 cd35 ct35), sl35⟩) (c35 : PySem.W.codeIn K cd35 "_law_reads" = true) (k35 : PySem.W.keepIn K (.ref f__law_reads) = true)
   {od36 an36 : Option Addr} {sl36 : Array (Option Value)} {oc36 kV36 dc36 pm36 cd36 ct36 : Value}
   (a36 : PySem.W.nsIn K mainGlobals "_law_sole" = some (some (.ref f__law_sole)))
   (l36 : K.lookup f__law_sole = some ⟨oc36, od36, .func (PySem.W.fnOf "_law_sole" "_law_sole" (defArgs s__law_sole) (defBody s__law_sole) (defScope s__law_sole) .none kV36 dc36 pm36 an36 cd36 ct36), sl36⟩) (c36 : PySem.W.codeIn K cd36 "_law_sole" = true) (k36 : PySem.W.keepIn K (.ref f__law_sole) = true)
   {od37 an37 : Option Addr} {sl37 : Array (Option Value)} {oc37 kV37 dc37 pm37 cd37 ct37 : Value}
   (a37 : PySem.W.nsIn K mainGlobals "_law_copy" = some (some (.ref f__law_copy)))
   (l37 : K.lookup f__law_copy = some ⟨oc37, od37, .func (PySem.W.fnOf "_law_copy" "_law_copy" (defArgs s__law_copy) (defBody s__law_copy) (defScope s__law_copy) .none kV37 dc37 pm37 an37 cd37 ct37), sl37⟩) (c37 : PySem.W.codeIn K cd37 "_law_copy" = true) (k37 : PySem.W.keepIn K (.ref f__law_copy) = true)
   {od38 an38 : Option Addr} {sl38 : Array (Option Value)} {oc38 kV38 dc38 pm38 cd38 ct38 : Value}
   (a38 : PySem.W.nsIn K mainGlobals "_law_text" = some (some (.ref f__law_text)))
   (l38 : K.lookup f__law_text = some ⟨oc38, od38, .func (PySem.W.fnOf "_law_text" "_law_text" (defArgs s__law_text) (defBody s__law_text) (defScope s__law_text) .none kV38 dc38 pm38 an38 cd38 ct38), sl38⟩) (c38 : PySem.W.codeIn K cd38 "_law_text" = true) (k38 : PySem.W.keepIn K (.ref f__law_text) = true)
   {od39 an39 : Option Addr} {sl39 : Array (Option Value)} {oc39 kV39 dc39 pm39 cd39 ct39 : Value}
   (a39 : PySem.W.nsIn K mainGlobals "_law_table_of" = some (some (.ref f__law_table_of)))
   (l39 : K.lookup f__law_table_of = some ⟨oc39, od39, .func (PySem.W.fnOf "_law_table_of" "_law_table_of" (defArgs s__law_table_of) (defBody s__law_table_of) (defScope s__law_table_of) .none kV39 dc39 pm39 an39 cd39 ct39), sl39⟩) (c39 : PySem.W.codeIn K cd39 "_law_table_of" = true) (k39 : PySem.W.keepIn K (.ref f__law_table_of) = true)
   {od40 an40 : Option Addr} {sl40 : Array (Option Value)} {oc40 kV40 dc40 pm40 cd40 ct40 : Value}
   (a40 : PySem.W.nsIn K mainGlobals "law" = some (some (.ref f_law)))
   (l40 : K.lookup f_law = some ⟨oc40, od40, .func (PySem.W.fnOf "law" "law" (defArgs s_law) (defBody s_law) (defScope s_law) .none kV40 dc40 pm40 an40 cd40 ct40), sl40⟩) (c40 : PySem.W.codeIn K cd40 "law" = true) (k40 : PySem.W.keepIn K (.ref f_law) = true)
   (pg_Dialect : PySem.W.plainGet K C_Dialect Str.empty = true) (hd_Dialect : PySem.W.hasDictIn K C_Dialect = true) (po_Dialect : PySem.W.plainOver K C_Dialect = true) (sa_Dialect : PySem.W.findIn K (.ref C_Dialect) "__setattr__" = some (some (.builtin "object.__setattr__"))) (mk_Dialect : PySem.W.makesIn K C_Dialect = true) (kc_Dialect : PySem.W.keepIn K (.ref C_Dialect) = true)
   (n_Dialect_parts : PySem.W.findIn K (.ref C_Dialect) "parts" = some none)
   (n_Dialect_quotes : PySem.W.findIn K (.ref C_Dialect) "quotes" = some none)
   (n_Dialect_frees : PySem.W.findIn K (.ref C_Dialect) "frees" = some none)
   (n_Dialect_twin : PySem.W.findIn K (.ref C_Dialect) "twin" = some none)
   (n_Dialect_wide : PySem.W.findIn K (.ref C_Dialect) "wide" = some none)
   (n_Dialect_thin : PySem.W.findIn K (.ref C_Dialect) "thin" = some none)
   (n_Dialect_stray : PySem.W.findIn K (.ref C_Dialect) "stray" = some none)
   (pg_Turn : PySem.W.plainGet K C_Turn Str.empty = true) (hd_Turn : PySem.W.hasDictIn K C_Turn = true) (po_Turn : PySem.W.plainOver K C_Turn = true) (sa_Turn : PySem.W.findIn K (.ref C_Turn) "__setattr__" = some (some (.builtin "object.__setattr__"))) (mk_Turn : PySem.W.makesIn K C_Turn = true) (kc_Turn : PySem.W.keepIn K (.ref C_Turn) = true)
   (n_Turn_dialect : PySem.W.findIn K (.ref C_Turn) "dialect" = some none)
   (z_all : PySem.W.nsIn K mainGlobals "all" = some none)
   (z_any : PySem.W.nsIn K mainGlobals "any" = some none)
   (z_bool : PySem.W.nsIn K mainGlobals "bool" = some none)
   (z_int : PySem.W.nsIn K mainGlobals "int" = some none)
   (z_isinstance : PySem.W.nsIn K mainGlobals "isinstance" = some none)
   (z_len : PySem.W.nsIn K mainGlobals "len" = some none)
   (z_list : PySem.W.nsIn K mainGlobals "list" = some none)
   (z_ord : PySem.W.nsIn K mainGlobals "ord" = some none)
   (z_range : PySem.W.nsIn K mainGlobals "range" = some none)
   (z_reversed : PySem.W.nsIn K mainGlobals "reversed" = some none)
   (z_str : PySem.W.nsIn K mainGlobals "str" = some none)
   (z_tuple : PySem.W.nsIn K mainGlobals "tuple" = some none)
   (z_zip : PySem.W.nsIn K mainGlobals "zip" = some none)
   {tk_LINE : Tok} (v_LINE : PySem.W.nsIn K mainGlobals "LINE" = some (some (.str z_LINE tk_LINE))) (w_LINE : z_LINE = Str.ofString "\n")
   {tk_MOST_SIGNS : Tok} (v_MOST_SIGNS : PySem.W.nsIn K mainGlobals "MOST_SIGNS" = some (some (.int 2000 tk_MOST_SIGNS)))
   (v_START : PySem.W.nsIn K mainGlobals "START" = some (some (.ref a_START)))
   {od_START : Option Addr} {n_START : Nat} {sl_START : Array (Option Value)} {t0_START t1_START : Tok} (t_START : K.lookup a_START = some ⟨.type "tuple", od_START, .seq #[.str (Str.ofString "row") t0_START, .str (Str.ofString "") t1_START] n_START, sl_START⟩) :
   ∃ fd : FuncData, (∀ (s : Shared) (v : Value), BindsTo s fd ⟨[v], []⟩ [("_law_script", v)]) ∧ ∀ base : Heap, K.In base → base.Ns mainGlobals mg → FnOk l.prog w K mg base CX0 11 fa fd ["_law_script"] (sp_law K) := by
 have e := hfa.symm.trans (PySem.W.mg_of X G a40)
 cases e
 have F0 := fun_mk (st := s_is_printable) l0 c0 k0
 have b0 := F0.binds (ps := ["sign"]) fun _ _ _ _ _ _ us hl => match us, hl with | [_], _ => rfl
 have F1 := fun_mk (st := s_has_signs_alone) l1 c1 k1
 have b1 := F1.binds (ps := ["text"]) fun _ _ _ _ _ _ us hl => match us, hl with | [_], _ => rfl
 have F2 := fun_mk (st := s_is_text) l2 c2 k2
 have b2 := F2.binds (ps := ["thing"]) fun _ _ _ _ _ _ us hl => match us, hl with | [_], _ => rfl
 have F3 := fun_mk (st := s_are_unlike_signs) l3 c3 k3
 have b3 := F3.binds (ps := ["thing", "least", "most"]) fun _ _ _ _ _ _ us hl => match us, hl with | [_, _, _], _ => rfl
 have F4 := funD_mk (st := s_Dialect___init__) l4 c4 k4
 have b4 : Binds K (PySem.W.fnOf "__init__" "Dialect.__init__" (defArgs s_Dialect___init__) (defBody s_Dialect___init__) (defScope s_Dialect___init__) (.ref dt_Dialect___init__) kV4 dc4 pm4 an4 cd4 ct4) ["self", "parts", "quotes", "frees", "twin", "wide", "thin", "stray"] [] := fun s us hK hl => match us, hl with | [_, _, _, _, _, _, _, _], _ => BindsTo.of_defaults (T := dt_Dialect___init__) rfl (hK _ _ d4) rfl rfl rfl
 have F5 := fun_mk (st := s_Dialect_told) l5 c5 k5
 have b5 := F5.binds (ps := ["self"]) fun _ _ _ _ _ _ us hl => match us, hl with | [_], _ => rfl
 have F6 := fun_mk (st := s_dialect_of) l6 c6 k6
 have b6 := F6.binds (ps := ["told"]) fun _ _ _ _ _ _ us hl => match us, hl with | [_], _ => rfl
 have F7 := fun_mk (st := s_step_at_beginning) l7 c7 k7
 have b7 := F7.binds (ps := ["dialect", "state", "sign"]) fun _ _ _ _ _ _ us hl => match us, hl with | [_, _, _], _ => rfl
 have F8 := fun_mk (st := s_step_in_plain) l8 c8 k8
 have b8 := F8.binds (ps := ["dialect", "sign"]) fun _ _ _ _ _ _ us hl => match us, hl with | [_, _], _ => rfl
 have F9 := fun_mk (st := s_step_within) l9 c9 k9
 have b9 := F9.binds (ps := ["dialect", "quote", "sign"]) fun _ _ _ _ _ _ us hl => match us, hl with | [_, _, _], _ => rfl
 have F10 := fun_mk (st := s_step_behind) l10 c10 k10
 have b10 := F10.binds (ps := ["dialect", "sign"]) fun _ _ _ _ _ _ us hl => match us, hl with | [_, _], _ => rfl
 have F11 := fun_mk (st := s_step_in_doubt) l11 c11 k11
 have b11 := F11.binds (ps := ["dialect", "quote", "sign"]) fun _ _ _ _ _ _ us hl => match us, hl with | [_, _, _], _ => rfl
 have F12 := fun_mk (st := s_step_freed) l12 c12 k12
 have b12 := F12.binds (ps := ["dialect", "quote", "sign"]) fun _ _ _ _ _ _ us hl => match us, hl with | [_, _, _], _ => rfl
 have F13 := fun_mk (st := s_Turn___init__) l13 c13 k13
 have b13 := F13.binds (ps := ["self", "dialect"]) fun _ _ _ _ _ _ us hl => match us, hl with | [_, _], _ => rfl
 have F14 := fun_mk (st := s_Turn_step) l14 c14 k14
 have b14 := F14.binds (ps := ["self", "state", "sign"]) fun _ _ _ _ _ _ us hl => match us, hl with | [_, _, _], _ => rfl
 have F15 := fun_mk (st := s_check_text) l15 c15 k15
 have b15 := F15.binds (ps := ["thing"]) fun _ _ _ _ _ _ us hl => match us, hl with | [_], _ => rfl
 have F16 := fun_mk (st := s_walk) l16 c16 k16
 have b16 := F16.binds (ps := ["dialect", "text"]) fun _ _ _ _ _ _ us hl => match us, hl with | [_, _], _ => rfl
 have F17 := fun_mk (st := s_end_of) l17 c17 k17
 have b17 := F17.binds (ps := ["walked"]) fun _ _ _ _ _ _ us hl => match us, hl with | [_], _ => rfl
 have F18 := fun_mk (st := s_table_of) l18 c18 k18
 have b18 := F18.binds (ps := ["text", "kinds"]) fun _ _ _ _ _ _ us hl => match us, hl with | [_, _], _ => rfl
 have F19 := fun_mk (st := s_reading_of) l19 c19 k19
 have b19 := F19.binds (ps := ["dialect", "text"]) fun _ _ _ _ _ _ us hl => match us, hl with | [_, _], _ => rfl
 have F20 := fun_mk (st := s_is_sole) l20 c20 k20
 have b20 := F20.binds (ps := ["dialect", "table", "others", "text"]) fun _ _ _ _ _ _ us hl => match us, hl with | [_, _, _, _], _ => rfl
 have F21 := fun_mk (st := s__law_cell_at) l21 c21 k21
 have b21 := F21.binds (ps := ["_law_script", "_law_k"]) fun _ _ _ _ _ _ us hl => match us, hl with | [_, _], _ => rfl
 have F22 := fun_mk (st := s__law_mixed) l22 c22 k22
 have b22 := F22.binds (ps := ["_law_number_here", "_law_salt"]) fun _ _ _ _ _ _ us hl => match us, hl with | [_, _], _ => rfl
 have F23 := fun_mk (st := s__law_number) l23 c23 k23
 have b23 := F23.binds (ps := ["_law_cell", "_law_salt"]) fun _ _ _ _ _ _ us hl => match us, hl with | [_, _], _ => rfl
 have F24 := fun_mk (st := s__law_some) l24 c24 k24
 have b24 := F24.binds (ps := ["_law_number_here", "_law_many", "_law_menu"]) fun _ _ _ _ _ _ us hl => match us, hl with | [_, _, _], _ => rfl
 have F25 := fun_mk (st := s__law_menus) l25 c25 k25
 have b25 := F25.binds (ps := ["_law_way"]) fun _ _ _ _ _ _ us hl => match us, hl with | [_], _ => rfl
 have F26 := fun_mk (st := s__law_told) l26 c26 k26
 have b26 := F26.binds (ps := ["_law_cell"]) fun _ _ _ _ _ _ us hl => match us, hl with | [_], _ => rfl
 have F27 := fun_mk (st := s__law_made) l27 c27 k27
 have b27 := F27.binds (ps := ["_law_told_here"]) fun _ _ _ _ _ _ us hl => match us, hl with | [_], _ => rfl
 have F28 := fun_mk (st := s__law_open) l28 c28 k28
 have b28 := F28.binds (ps := ["_law_told_here", "_law_state", "_law_sign"]) fun _ _ _ _ _ _ us hl => match us, hl with | [_, _, _], _ => rfl
 have F29 := fun_mk (st := s__law_step) l29 c29 k29
 have b29 := F29.binds (ps := ["_law_told_here", "_law_state", "_law_sign"]) fun _ _ _ _ _ _ us hl => match us, hl with | [_, _, _], _ => rfl
 have F30 := fun_mk (st := s__law_near) l30 c30 k30
 have b30 := F30.binds (ps := ["_law_told_here", "_law_number_here"]) fun _ _ _ _ _ _ us hl => match us, hl with | [_, _], _ => rfl
 have F31 := fun_mk (st := s__law_others) l31 c31 k31
 have b31 := F31.binds (ps := ["_law_script", "_law_told_here", "_law_first", "_law_many"]) fun _ _ _ _ _ _ us hl => match us, hl with | [_, _, _, _], _ => rfl
 have F32 := fun_mk (st := s__law_signs) l32 c32 k32
 have b32 := F32.binds (ps := ["_law_tolds", "_law_table"]) fun _ _ _ _ _ _ us hl => match us, hl with | [_, _], _ => rfl
 have F33 := fun_mk (st := s__law_tokens) l33 c33 k33
 have b33 := F33.binds (ps := ["_law_table"]) fun _ _ _ _ _ _ us hl => match us, hl with | [_], _ => rfl
 have F34 := fun_mk (st := s__law_led) l34 c34 k34
 have b34 := F34.binds (ps := ["_law_told_here", "_law_tokens_here", "_law_mark", "_law_sign"]) fun _ _ _ _ _ _ us hl => match us, hl with | [_, _, _, _], _ => rfl
 have F35 := fun_mk (st := s__law_reads) l35 c35 k35
 have b35 := F35.binds (ps := ["_law_told_here", "_law_text_here", "_law_table"]) fun _ _ _ _ _ _ us hl => match us, hl with | [_, _, _], _ => rfl
 have F36 := fun_mk (st := s__law_sole) l36 c36 k36
 have b36 := F36.binds (ps := ["_law_tolds", "_law_text_here", "_law_table"]) fun _ _ _ _ _ _ us hl => match us, hl with | [_, _, _], _ => rfl
 have F37 := fun_mk (st := s__law_copy) l37 c37 k37
 have b37 := F37.binds (ps := ["_law_table"]) fun _ _ _ _ _ _ us hl => match us, hl with | [_], _ => rfl
 have F38 := fun_mk (st := s__law_text) l38 c38 k38
 have b38 := F38.binds (ps := ["_law_cell", "_law_tolds"]) fun _ _ _ _ _ _ us hl => match us, hl with | [_, _], _ => rfl
 have F39 := fun_mk (st := s__law_table_of) l39 c39 k39
 have b39 := F39.binds (ps := ["_law_told_here", "_law_text_here"]) fun _ _ _ _ _ _ us hl => match us, hl with | [_, _], _ => rfl
 have F40 := fun_mk (st := s_law) l40 c40 k40
 have b40 := F40.binds (ps := ["_law_script"]) fun _ _ _ _ _ _ us hl => match us, hl with | [_], _ => rfl
 exact ⟨PySem.W.fnOf "law" "law" (defArgs s_law) (defBody s_law) (defScope s_law) .none kV40 dc40 pm40 an40 cd40 ct40, fun s v => .of_eq rfl, fun base _ _ => ok_law ⟨F0, b0, PySem.W.mg_of X G a0,
   F1, b1, PySem.W.mg_of X G a1,
   F2, b2, PySem.W.mg_of X G a2,
   F3, b3, PySem.W.mg_of X G a3,
   F4, b4,
   F5, b5, ⟨a5, i5, k5⟩,
   F6, b6, PySem.W.mg_of X G a6,
   F7, b7, PySem.W.mg_of X G a7,
   F8, b8, PySem.W.mg_of X G a8,
   F9, b9, PySem.W.mg_of X G a9,
   F10, b10, PySem.W.mg_of X G a10,
   F11, b11, PySem.W.mg_of X G a11,
   F12, b12, PySem.W.mg_of X G a12,
   F13, b13,
   F14, b14, ⟨a14, i14, k14⟩,
   F15, b15, PySem.W.mg_of X G a15,
   F16, b16, PySem.W.mg_of X G a16,
   F17, b17, PySem.W.mg_of X G a17,
   F18, b18, PySem.W.mg_of X G a18,
   F19, b19, PySem.W.mg_of X G a19,
   F20, b20, PySem.W.mg_of X G a20,
   F21, b21, PySem.W.mg_of X G a21,
   F22, b22, PySem.W.mg_of X G a22,
   F23, b23, PySem.W.mg_of X G a23,
   F24, b24, PySem.W.mg_of X G a24,
   F25, b25, PySem.W.mg_of X G a25,
   F26, b26, PySem.W.mg_of X G a26,
   F27, b27, PySem.W.mg_of X G a27,
   F28, b28, PySem.W.mg_of X G a28,
   F29, b29, PySem.W.mg_of X G a29,
   F30, b30, PySem.W.mg_of X G a30,
   F31, b31, PySem.W.mg_of X G a31,
   F32, b32, PySem.W.mg_of X G a32,
   F33, b33, PySem.W.mg_of X G a33,
   F34, b34, PySem.W.mg_of X G a34,
   F35, b35, PySem.W.mg_of X G a35,
   F36, b36, PySem.W.mg_of X G a36,
   F37, b37, PySem.W.mg_of X G a37,
   F38, b38, PySem.W.mg_of X G a38,
   F39, b39, PySem.W.mg_of X G a39,
   F40, b40, PySem.W.mg_of X G a40,
   ⟨pg_Dialect, hd_Dialect, po_Dialect, sa_Dialect⟩, PySem.W.mg_of X G aC_Dialect, ⟨mk_Dialect, a4, i4, kc_Dialect⟩,
   n_Dialect_parts,
   n_Dialect_quotes,
   n_Dialect_frees,
   n_Dialect_twin,
   n_Dialect_wide,
   n_Dialect_thin,
   n_Dialect_stray,
   ⟨pg_Turn, hd_Turn, po_Turn, sa_Turn⟩, PySem.W.mg_of X G aC_Turn, ⟨mk_Turn, a13, i13, kc_Turn⟩,
   n_Turn_dialect,
   PySem.W.mg_none_of X G z_all,
   PySem.W.mg_none_of X G z_any,
   PySem.W.mg_none_of X G z_bool,
   PySem.W.mg_none_of X G z_int,
   PySem.W.mg_none_of X G z_isinstance,
   PySem.W.mg_none_of X G z_len,
   PySem.W.mg_none_of X G z_list,
   PySem.W.mg_none_of X G z_ord,
   PySem.W.mg_none_of X G z_range,
   PySem.W.mg_none_of X G z_reversed,
   PySem.W.mg_none_of X G z_str,
   PySem.W.mg_none_of X G z_tuple,
   PySem.W.mg_none_of X G z_zip,
   ⟨_, PySem.W.mg_of X G v_LINE⟩, w_LINE,
   ⟨_, PySem.W.mg_of X G v_MOST_SIGNS⟩,
   PySem.W.mg_of X G v_START, ⟨_, _, _, t_START, rfl, rfl, (by show 2 ≤ sizeLine; decide), (.cons ⟨_, rfl⟩ (.cons ⟨_, rfl⟩ .nil))⟩⟩⟩
theorem walk {l : PySem.W.OpenLaw} {q : Program} {loose : List Str} {XP : (Str → Option Value) → Heap → Prop} {YP : World → Heap → Prop} {d : DefRec} {K : Params → PySem.W.Frag} (hn : l.most = some 63) (hdf : d.params.defaults = [])
   (hY : ∀ (w : World) (h : Heap), YP w h → (K w.params).In h)
   (F : ∀ (w : World) (mg : Str → Option Value) (fa : Addr) (h : Heap), (K w.params).In h → h.Ns mainGlobals mg → mg d.name = some (.ref fa) →
     ∃ fd : FuncData, (∀ (s : Shared) (u : Value), BindsTo s fd ⟨[u], []⟩ [("_law_script", u)]) ∧ ∀ base : Heap, (K w.params).In base → base.Ns mainGlobals mg → FnOk l.prog w (K w.params) mg base CX0 11 fa fd ["_law_script"] (sp_law (K w.params))) :
   PySem.W.WalkO q loose XP YP l.row.toRowW d [] (fun f vs => PySem.call f vs) :=
 L2.walk_of (n := 63) (k := 11) (x := "_law_script") (CX := fun _ => CX0) (sp := fun w => sp_law (K w.params)) hn (by decide) hdf ⟨rfl, by decide, by decide⟩ hY F (fun _ _ a ns hl _ hS => ⟨a, ns, rfl, hS, hl, fun _ => rfl⟩) fun _ _ _ _ _ z => z
end My
def PySem.W.Fast.tw16753592135844595673 : Unit := ()
def PySem.W.Fast.tw6694376380715807718 : Unit := ()
def PySem.W.Fast.tw7489421802075255539 : Unit := ()
def PySem.W.Fast.tw9568284693761391493 : Unit := ()
def PySem.W.Fast.tw7706352917994205419 : Unit := ()
def PySem.W.Fast.tw10773666906769984958 : Unit := ()
def PySem.W.Fast.tw5720787700652899263 : Unit := ()
def PySem.W.Fast.tw5499237674065092472 : Unit := ()
def PySem.W.Fast.tw16455356260602581169 : Unit := ()
def PySem.W.Fast.tw12046130688720019459 : Unit := ()
def PySem.W.Fast.tw139208594440117911 : Unit := ()
def PySem.W.Fast.tw16288511239318393678 : Unit := ()
def PySem.W.Fast.tw5194251747702413056 : Unit := ()
def PySem.W.Fast.tw10340473889926135449 : Unit := ()
def PySem.W.Fast.tw16286524493642885920 : Unit := ()
def PySem.W.Fast.tw13781447280276222385 : Unit := ()
def PySem.W.Fast.tw17532798291253091165 : Unit := ()
def PySem.W.Fast.tw3007785878913040801 : Unit := ()
def PySem.W.Fast.tw8871214239588136338 : Unit := ()
def PySem.W.Fast.tw17739490362949990385 : Unit := ()
def PySem.W.Fast.tw4103021240450572300 : Unit := ()
def PySem.W.Fast.tw12260653679061867225 : Unit := ()
def PySem.W.Fast.tw7401510576350203418 : Unit := ()
def PySem.W.Fast.tw14058095689561889948 : Unit := ()
def PySem.W.Fast.tw10745257230037606070 : Unit := ()
def PySem.W.Fast.tw3820860195364567782 : Unit := ()
def PySem.W.Fast.tw16102255261148075784 : Unit := ()
def PySem.W.Fast.tw12444436718777751668 : Unit := ()
def PySem.W.Fast.tw15524894085767010271 : Unit := ()
def PySem.W.Fast.tw9773884603853407545 : Unit := ()
def PySem.W.Fast.tw4574859139204973984 : Unit := ()
def PySem.W.Fast.tw6550650030107681513 : Unit := ()
def PySem.W.Fast.tw11479455616449731896 : Unit := ()
def PySem.W.Fast.tw14321392187280601901 : Unit := ()
def PySem.W.Fast.tw13743704417028657173 : Unit := ()
def PySem.W.Fast.tw17425937365053772206 : Unit := ()
def PySem.W.Fast.tw9277494744047781419 : Unit := ()
def PySem.W.Fast.tw525891710935372062 : Unit := ()
def PySem.W.Fast.tw446685026919124883 : Unit := ()
def PySem.W.Fast.tw5411646145510643617 : Unit := ()
def PySem.W.Fast.tw8461654905031073448 : Unit := ()
def PySem.W.Fast.tw3814777852466930438 : Unit := ()
def PySem.W.Fast.tw7801918296684764063 : Unit := ()
def PySem.W.Fast.tw6226358234027084709 : Unit := ()
def PySem.W.Fast.tw4503682710043124882 : Unit := ()
def PySem.W.Fast.tw9748936649343017214 : Unit := ()
def PySem.W.Fast.tw7237283272746894547 : Unit := ()
def PySem.W.Fast.tw3630117571942553329 : Unit := ()
def PySem.W.Fast.tw17665186556184274092 : Unit := ()
def PySem.W.Fast.tw18176833006504849452 : Unit := ()
def PySem.W.Fast.tw13199116267358467177 : Unit := ()
def PySem.W.Fast.tw2038438621559621653 : Unit := ()
def PySem.W.Fast.tw8887745502927762389 : Unit := ()
def PySem.W.Fast.tw9541906530657300062 : Unit := ()
def PySem.W.Fast.tw14547039758296991466 : Unit := ()
def PySem.W.Fast.tw12703068506341851399 : Unit := ()
def PySem.W.Fast.tw11367267318126146918 : Unit := ()
def PySem.W.Fast.tw2933838628129307816 : Unit := ()
def PySem.W.Fast.tw516170901578855357 : Unit := ()
def PySem.W.Fast.tw2159071268809761079 : Unit := ()
def PySem.W.Fast.tw8680608061884020148 : Unit := ()
def PySem.W.Fast.tw7860368092724501386 : Unit := ()
def PySem.W.Fast.tw5537522235255323664 : Unit := ()
def PySem.W.Fast.tw1506623636346756514 : Unit := ()
def PySem.W.Fast.tw9516573527473347608 : Unit := ()
def PySem.W.Fast.tw8556673071041846198 : Unit := ()
def PySem.W.Fast.tw4802851277866936825 : Unit := ()
def PySem.W.Fast.tw6078459813354601713 : Unit := ()
def PySem.W.Fast.tw11482968773851954184 : Unit := ()
def PySem.W.Fast.tw1738070849540234988 : Unit := ()
def PySem.W.Fast.tw15254055005809852484 : Unit := ()
def PySem.W.Fast.tw3479593071913288689 : Unit := ()
def PySem.W.Fast.tw10878362921319765080 : Unit := ()
def PySem.W.Fast.tw15951082687988035677 : Unit := ()
def PySem.W.Fast.tw5015223853096736602 : Unit := ()
def PySem.W.Fast.tw7604340287069031425 : Unit := ()
def PySem.W.Fast.tw7018754823466667116 : Unit := ()
def PySem.W.Fast.tw5990463427638212038 : Unit := ()
open PySem PySem.W PyProof.Rows
set_option maxRecDepth 100000 in
set_option maxHeartbeats 0 in
theorem PySem.Challenge.cw_dialecthall_k76_sole_texts_looked_at_holds : PySem.Challenge.rw_dialecthall_k76_sole_texts_looked_at.Holds := by
 w_on; o_law; k_head; (case hw => w_witness2)
 k_fill
 refine My.walk (l := PySem.Challenge.rw_dialecthall_k76_sole_texts_looked_at) rfl rfl (fun w h Y => PySem.W.kIn_of Y) ?F
 case F =>
   intro w mg fa h KX G hmg
   refine' My.all_mk KX G hmg ?aC_Dialect ?aC_Turn ?a0 ?l0 ?c0 ?k0 ?a1 ?l1 ?c1 ?k1 ?a2 ?l2 ?c2 ?k2 ?a3 ?l3 ?c3 ?k3 ?a4 ?i4 ?l4 ?c4 ?k4 ?d4 ?a5 ?i5 ?l5 ?c5 ?k5 ?a6 ?l6 ?c6 ?k6 ?a7 ?l7 ?c7 ?k7 ?a8 ?l8 ?c8 ?k8 ?a9 ?l9 ?c9 ?k9 ?a10 ?l10 ?c10 ?k10 ?a11 ?l11 ?c11 ?k11 ?a12 ?l12 ?c12 ?k12 ?a13 ?i13 ?l13 ?c13 ?k13 ?a14 ?i14 ?l14 ?c14 ?k14 ?a15 ?l15 ?c15 ?k15 ?a16 ?l16 ?c16 ?k16 ?a17 ?l17 ?c17 ?k17 ?a18 ?l18 ?c18 ?k18 ?a19 ?l19 ?c19 ?k19 ?a20 ?l20 ?c20 ?k20 ?a21 ?l21 ?c21 ?k21 ?a22 ?l22 ?c22 ?k22 ?a23 ?l23 ?c23 ?k23 ?a24 ?l24 ?c24 ?k24 ?a25 ?l25 ?c25 ?k25 ?a26 ?l26 ?c26 ?k26 ?a27 ?l27 ?c27 ?k27 ?a28 ?l28 ?c28 ?k28 ?a29 ?l29 ?c29 ?k29 ?a30 ?l30 ?c30 ?k30 ?a31 ?l31 ?c31 ?k31 ?a32 ?l32 ?c32 ?k32 ?a33 ?l33 ?c33 ?k33 ?a34 ?l34 ?c34 ?k34 ?a35 ?l35 ?c35 ?k35 ?a36 ?l36 ?c36 ?k36 ?a37 ?l37 ?c37 ?k37 ?a38 ?l38 ?c38 ?k38 ?a39 ?l39 ?c39 ?k39 ?a40 ?l40 ?c40 ?k40 ?pg_Dialect ?hd_Dialect ?po_Dialect ?sa_Dialect ?mk_Dialect ?kc_Dialect ?n_Dialect_parts ?n_Dialect_quotes ?n_Dialect_frees ?n_Dialect_twin ?n_Dialect_wide ?n_Dialect_thin ?n_Dialect_stray ?pg_Turn ?hd_Turn ?po_Turn ?sa_Turn ?mk_Turn ?kc_Turn ?n_Turn_dialect ?z_all ?z_any ?z_bool ?z_int ?z_isinstance ?z_len ?z_list ?z_ord ?z_range ?z_reversed ?z_str ?z_tuple ?z_zip ?v_LINE ?w_LINE ?v_MOST_SIGNS ?v_START ?t_START
   (case aC_Dialect => k_is)
   (case aC_Turn => k_is)
   (case a0 => k_is)
   (case l0 => k_is)
   (case c0 => k_is)
   (case k0 => k_is)
   (case a1 => k_is)
   (case l1 => k_is)
   (case c1 => k_is)
   (case k1 => k_is)
   (case a2 => k_is)
   (case l2 => k_is)
   (case c2 => k_is)
   (case k2 => k_is)
   (case a3 => k_is)
   (case l3 => k_is)
   (case c3 => k_is)
   (case k3 => k_is)
   (case a4 => k_is)
   (case i4 => k_is)
   (case l4 => k_is)
   (case c4 => k_is)
   (case k4 => k_is)
   (case d4 => k_is)
   (case a5 => k_is)
   (case i5 => k_is)
   (case l5 => k_is)
   (case c5 => k_is)
   (case k5 => k_is)
   (case a6 => k_is)
   (case l6 => k_is)
   (case c6 => k_is)
   (case k6 => k_is)
   (case a7 => k_is)
   (case l7 => k_is)
   (case c7 => k_is)
   (case k7 => k_is)
   (case a8 => k_is)
   (case l8 => k_is)
   (case c8 => k_is)
   (case k8 => k_is)
   (case a9 => k_is)
   (case l9 => k_is)
   (case c9 => k_is)
   (case k9 => k_is)
   (case a10 => k_is)
   (case l10 => k_is)
   (case c10 => k_is)
   (case k10 => k_is)
   (case a11 => k_is)
   (case l11 => k_is)
   (case c11 => k_is)
   (case k11 => k_is)
   (case a12 => k_is)
   (case l12 => k_is)
   (case c12 => k_is)
   (case k12 => k_is)
   (case a13 => k_is)
   (case i13 => k_is)
   (case l13 => k_is)
   (case c13 => k_is)
   (case k13 => k_is)
   (case a14 => k_is)
   (case i14 => k_is)
   (case l14 => k_is)
   (case c14 => k_is)
   (case k14 => k_is)
   (case a15 => k_is)
   (case l15 => k_is)
   (case c15 => k_is)
   (case k15 => k_is)
   (case a16 => k_is)
   (case l16 => k_is)
   (case c16 => k_is)
   (case k16 => k_is)
   (case a17 => k_is)
   (case l17 => k_is)
   (case c17 => k_is)
   (case k17 => k_is)
   (case a18 => k_is)
   (case l18 => k_is)
   (case c18 => k_is)
   (case k18 => k_is)
   (case a19 => k_is)
   (case l19 => k_is)
   (case c19 => k_is)
   (case k19 => k_is)
   (case a20 => k_is)
   (case l20 => k_is)
   (case c20 => k_is)
   (case k20 => k_is)
   (case a21 => k_is)
   (case l21 => k_is)
   (case c21 => k_is)
   (case k21 => k_is)
   (case a22 => k_is)
   (case l22 => k_is)
   (case c22 => k_is)
   (case k22 => k_is)
   (case a23 => k_is)
   (case l23 => k_is)
   (case c23 => k_is)
   (case k23 => k_is)
   (case a24 => k_is)
   (case l24 => k_is)
   (case c24 => k_is)
   (case k24 => k_is)
   (case a25 => k_is)
   (case l25 => k_is)
   (case c25 => k_is)
   (case k25 => k_is)
   (case a26 => k_is)
   (case l26 => k_is)
   (case c26 => k_is)
   (case k26 => k_is)
   (case a27 => k_is)
   (case l27 => k_is)
   (case c27 => k_is)
   (case k27 => k_is)
   (case a28 => k_is)
   (case l28 => k_is)
   (case c28 => k_is)
   (case k28 => k_is)
   (case a29 => k_is)
   (case l29 => k_is)
   (case c29 => k_is)
   (case k29 => k_is)
   (case a30 => k_is)
   (case l30 => k_is)
   (case c30 => k_is)
   (case k30 => k_is)
   (case a31 => k_is)
   (case l31 => k_is)
   (case c31 => k_is)
   (case k31 => k_is)
   (case a32 => k_is)
   (case l32 => k_is)
   (case c32 => k_is)
   (case k32 => k_is)
   (case a33 => k_is)
   (case l33 => k_is)
   (case c33 => k_is)
   (case k33 => k_is)
   (case a34 => k_is)
   (case l34 => k_is)
   (case c34 => k_is)
   (case k34 => k_is)
   (case a35 => k_is)
   (case l35 => k_is)
   (case c35 => k_is)
   (case k35 => k_is)
   (case a36 => k_is)
   (case l36 => k_is)
   (case c36 => k_is)
   (case k36 => k_is)
   (case a37 => k_is)
   (case l37 => k_is)
   (case c37 => k_is)
   (case k37 => k_is)
   (case a38 => k_is)
   (case l38 => k_is)
   (case c38 => k_is)
   (case k38 => k_is)
   (case a39 => k_is)
   (case l39 => k_is)
   (case c39 => k_is)
   (case k39 => k_is)
   (case a40 => k_is)
   (case l40 => k_is)
   (case c40 => k_is)
   (case k40 => k_is)
   (case pg_Dialect => k_is)
   (case hd_Dialect => k_is)
   (case po_Dialect => k_is)
   (case sa_Dialect => k_is)
   (case mk_Dialect => k_is)
   (case kc_Dialect => k_is)
   (case n_Dialect_parts => k_is)
   (case n_Dialect_quotes => k_is)
   (case n_Dialect_frees => k_is)
   (case n_Dialect_twin => k_is)
   (case n_Dialect_wide => k_is)
   (case n_Dialect_thin => k_is)
   (case n_Dialect_stray => k_is)
   (case pg_Turn => k_is)
   (case hd_Turn => k_is)
   (case po_Turn => k_is)
   (case sa_Turn => k_is)
   (case mk_Turn => k_is)
   (case kc_Turn => k_is)
   (case n_Turn_dialect => k_is)
   (case z_all => k_is)
   (case z_any => k_is)
   (case z_bool => k_is)
   (case z_int => k_is)
   (case z_isinstance => k_is)
   (case z_len => k_is)
   (case z_list => k_is)
   (case z_ord => k_is)
   (case z_range => k_is)
   (case z_reversed => k_is)
   (case z_str => k_is)
   (case z_tuple => k_is)
   (case z_zip => k_is)
   (case v_LINE => k_is)
   (case w_LINE => rfl)
   (case v_MOST_SIGNS => k_is)
   (case v_START => k_is)
   (case t_START => k_is)

