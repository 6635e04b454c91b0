import PyProof.Rows.All
import Wide.All
import OpenK.AllK
import Wide.FinOn
import Lean
import PyProof.EqAt
import PyProof.EqKinds
import PyProof.TupleCall
import KE.KSortTup
import PySem.Challenge.RW_dialecthall_k57_texts_that_are_none
set_option Elab.async false
set_option linter.all false
set_option maxRecDepth 100000
namespace L2
open PySem PySem.Spec PyProof.Rows
abbrev Key := Sum Int Str
def keyIs : Key → Value → Bool
 | .inl k, v => Value.isInt k v
 | .inr x, v => Value.isStrOf x v
def keyH (w : World) : Key → Int
 | .inl k => hashInt k
 | .inr x => hashStr w x
theorem keyIs_shape : ∀ {k : Key} {v : Value}, keyIs k v = true → (∃ i t, k = Sum.inl i ∧ v = Value.int i t) ∨ (∃ x t, k = Sum.inr x ∧ v = Value.str x t)
 | .inl i, v, h => by
   obtain ⟨t, e⟩ := Value.isInt_shape (k := i) (v := v) h
   exact .inl ⟨i, t, rfl, e⟩
 | .inr x, v, h => by
   obtain ⟨t, e⟩ := Value.isStrOf_shape (x := x) (v := v) h
   exact .inr ⟨x, t, rfl, e⟩
theorem keyIs_int (i : Int) (t : Tok) : keyIs (.inl i) (.int i t) = true := by simp [keyIs, Value.isInt]
theorem keyIs_str (x : Str) (t : Tok) : keyIs (.inr x) (.str x t) = true := by simp [keyIs, Value.isStrOf]
theorem key_ll (a b : Int) : decide ((Sum.inl a : Key) = Sum.inl b) = (a == b) := by
 by_cases e : a = b
 · subst e; simp
 · have h : ¬ (Sum.inl a : Key) = Sum.inl b := fun q => e (Sum.inl.inj q)
   rw [decide_eq_false h]
   exact (beq_eq_false_iff_ne.mpr e).symm
theorem key_rr (a b : Str) : decide ((Sum.inr a : Key) = Sum.inr b) = decide (a = b) := by
 by_cases e : a = b
 · subst e; simp
 · have h : ¬ (Sum.inr a : Key) = Sum.inr b := fun q => e (Sum.inr.inj q)
   rw [decide_eq_false h, decide_eq_false e]
theorem key_lr (a : Int) (b : Str) : decide ((Sum.inl a : Key) = Sum.inr b) = false := decide_eq_false (fun q => nomatch q)
theorem key_rl (a : Str) (b : Int) : decide ((Sum.inr a : Key) = Sum.inl b) = false := decide_eq_false (fun q => nomatch q)

def mixKind (prog : Program) (w : World) : PySem.KeyKind prog w Key where
 is := keyIs
 hash := keyH w
 inj := fun v a b ha hb => by
   rcases keyIs_shape ha with ⟨i, t, rfl, rfl⟩ | ⟨x, t, rfl, rfl⟩
   · rcases keyIs_shape hb with ⟨j, u, rfl, e⟩ | ⟨y, u, rfl, e⟩
     · injection e with e1 _; rw [e1]
     · exact nomatch e
   · rcases keyIs_shape hb with ⟨j, u, rfl, e⟩ | ⟨y, u, rfl, e⟩
     · exact nomatch e
     · injection e with e1 _; rw [e1]
 byValue := fun k v h => by
   rcases keyIs_shape h with ⟨i, t, rfl, rfl⟩ | ⟨x, t, rfl, rfl⟩ <;> rfl
 pyHash := fun hv h => by
   rcases keyIs_shape hv with ⟨i, t, rfl, rfl⟩ | ⟨x, t, rfl, rfl⟩
   · exact wpAny_pyHash_int h
   · exact wpAny_pyHash_str h
 eqBool := fun hu hv h => by
   rcases keyIs_shape hu with ⟨i, t, rfl, rfl⟩ | ⟨x, t, rfl, rfl⟩
   · rcases keyIs_shape hv with ⟨j, u, rfl, rfl⟩ | ⟨y, u, rfl, rfl⟩
     · rw [key_ll] at h; exact wpAny_eqBool_int h
     · rw [key_lr] at h; exact SeqAt.EqAt.int_str i t y u _ _ _ _ h
   · rcases keyIs_shape hv with ⟨j, u, rfl, rfl⟩ | ⟨y, u, rfl, rfl⟩
     · rw [key_rl] at h; exact SeqAt.EqAt.str_int x t j u _ _ _ _ h
     · rw [key_rr] at h; exact wpAny_eqBool_str h
 «strs» := fun k x t v h => by
   rcases keyIs_shape h with ⟨i, u, rfl, e⟩ | ⟨y, u, rfl, e⟩
   · exact nomatch e
   · injection e with e1 _
     subst e1
     cases v <;> rfl

theorem mixKind_int (prog : Program) (w : World) (i : Int) (t : Tok) : (mixKind prog w).is (.inl i) (.int i t) = true := keyIs_int i t
theorem mixKind_str (prog : Program) (w : World) (x : Str) (t : Tok) : (mixKind prog w).is (.inr x) (.str x t) = true := keyIs_str x t
end L2

namespace L2
open PySem PySem.Spec PyProof.Rows
inductive V where
 | non | bl (b : Bool) | int (i : Int) | str (x : Str) | byt (b : Array UInt8) | flt (b : UInt64) | ref (a : Addr) | ty (n : String)
 deriving DecidableEq

def RelV : V → Value → Prop
 | .non, u => u = Value.none
 | .bl b, u => u = Value.bool b
 | .int i, u => ∃ t, u = Value.int i t
 | .str x, u => ∃ t, u = Value.str x t
 | .byt b, u => ∃ t, u = Value.bytes b t
 | .flt b, u => ∃ t, u = Value.float b t
 | .ref a, u => u = Value.ref a
 | .ty n, u => u = Value.type n

abbrev Vals : List V → List Value → Prop := Paired RelV
theorem Vals.length {xs : List V} {us : List Value} (r : Vals xs us) : xs.length = us.length := Paired.length r
theorem Vals.get : ∀ {xs : List V} {us : List Value} {i : Nat} {x : V}, Vals xs us → xs[i]? = some x → ∃ u, us[i]? = some u ∧ RelV x u
 | _, _, _, _, .nil, e => by simp at e
 | _, _, 0, _, .cons r _, e => by simp at e; subst e; exact ⟨_, rfl, r⟩
 | _, _, i + 1, x, .cons _ t, e => by
   obtain ⟨u, h1, h2⟩ := Vals.get (i := i) (x := x) t (by simpa using e)
   exact ⟨u, by simpa using h1, h2⟩
theorem Vals.set {x : V} {u : Value} (r : RelV x u) : ∀ {xs : List V} {us : List Value} (i : Nat), Vals xs us → Vals (xs.set i x) (us.set i u)
 | _, _, _, .nil => .nil
 | _, _, 0, .cons _ t => .cons r t
 | _, _, i + 1, .cons q t => .cons q (Vals.set r i t)
theorem Vals.append : ∀ {xs ys : List V} {us ws : List Value}, Vals xs us → Vals ys ws → Vals (xs ++ ys) (us ++ ws)
 | _, _, _, _, .nil, s => s
 | _, _, _, _, .cons r t, s => .cons r (Vals.append t s)
theorem Vals.take : ∀ {xs : List V} {us : List Value} (n : Nat), Vals xs us → Vals (xs.take n) (us.take n)
 | _, _, 0, _ => .nil
 | _, _, _ + 1, .nil => .nil
 | _, _, n + 1, .cons r t => .cons r (Vals.take n t)
theorem Vals.drop : ∀ {xs : List V} {us : List Value} (n : Nat), Vals xs us → Vals (xs.drop n) (us.drop n)
 | _, _, 0, r => r
 | _, _, _ + 1, .nil => .nil
 | _, _, n + 1, .cons _ t => Vals.drop n t
theorem Vals.none_of : ∀ {xs : List V} {us : List Value} {i : Nat}, Vals xs us → xs[i]? = none → us[i]? = none := fun {xs us i} r e => by
 have h1 := r.length
 have h2 : xs.length ≤ i := List.getElem?_eq_none_iff.mp e
 exact List.getElem?_eq_none_iff.mpr (by omega)

def RelO : Option V → Option Value → Prop
 | some v, some u => RelV v u
 | none, none => True
 | _, _ => False
def KV {κ : Type} : List (κ × V) → List (κ × Value) → Prop := Paired fun (p : κ × V) (q : κ × Value) => p.1 = q.1 ∧ RelV p.2 q.2
def kV : Key → V
 | .inl i => .int i
 | .inr x => .str x
inductive HO where
 | lst (xs : List V)
 | tup (xs : List V)
 | dK (kvs : List (Key × V)) | dT (kvs : List (List Key × V))
 | set (S : Int → Bool) (n : Nat)
 | ins (C dx : Addr) (fs : List (Str × V))
 | own (x : Addr)
 | xd (fs : List (Str × V))
 | met (f x : Addr)
 | rng (lo hi : Int)
 | frz (o : Obj) (u : HO)
 | tbl (ps : Array Value)
 | ext (φ : Heap → Prop)

abbrev Hp := Addr → Option HO
def upd (H : Hp) (a : Addr) (o : HO) : Hp := fun b => if b = a then some o else H b
theorem upd_same {H : Hp} {a : Addr} {o : HO} : upd H a o a = some o := by unfold upd; rw [if_pos rfl]
theorem upd_ne {H : Hp} {a b : Addr} {o : HO} (h : b ≠ a) : upd H a o b = H b := by unfold upd; rw [if_neg h]
theorem ne_of {H : Hp} {a b : Addr} {o u : HO} (h : H a = some o) (h' : H b = some u) (d : o ≠ u) : a ≠ b := by
 intro e; subst e; rw [h] at h'; exact d (Option.some.inj h')
theorem ne_of_none {H : Hp} {a b : Addr} {o : HO} (h : H a = some o) (h' : H b = none) : a ≠ b := by
 intro e; subst e; rw [h] at h'; cases h'

section
variable (P : Program) (w : World)
def ObjOk (H : Hp) (h : Heap) (a : Addr) : HO → Prop
 | .lst xs => xs.length ≤ sizeLine ∧ ∃ (its : List Value) (n : Nat), Vals xs its ∧ h.get? a = some { cls := .type "list", data := .seq its.toArray n }
 | .tup xs => xs.length ≤ sizeLine ∧ ∃ its : List Value, Vals xs its ∧ IsTup h a its.toArray
 | .dK kvs => kvs.length ≤ sizeLine ∧ (a == sysModules) = false ∧ ∃ vs, KV kvs vs ∧ h.DictOf (mixKind P w) a vs
 | .dT kvs => kvs.length ≤ sizeLine ∧ (a == sysModules) = false ∧ ∃ xs : List (List Key × Addr × Value),
     Paired (fun (p : List Key × V) (q : List Key × Addr × Value) => p.1 = q.1 ∧ H q.2.1 = some (.tup (p.1.map kV)) ∧ RelV p.2 q.2.2) kvs xs ∧
     ∃ o es ep, h.get? a = some o ∧ o.ExactDict ∧ o.data = .dict es ep ∧ es.toList = xs.map (entryOfKey (tupleKind (mixKind P w))) ∧ (xs.map (·.1)).Nodup
 | .set S n => h.SetOf (intKind P w) a S n
 | .ins C dx fs => H dx = some (.own a) ∧ fs.length ≤ 1000 ∧ dx ≠ a ∧ h.get? a = some (PySem.W.instObj C dx) ∧
     ∃ mA, h.Ns1 dx mA ∧ (∀ f, RelO (fs.lookup f) (mA f)) ∧ PySem.Within mA (fs.map (·.1))
 | .own _ => ∃ o, h.get? a = some o
 | .xd fs => ∃ mA, h.Ns1 a mA ∧ ∀ f, RelO (fs.lookup f) (mA f)
 | .rng lo hi => ∃ t u v, h.get? a = some { cls := .type "range", data := .fields #[.int lo t, .int hi u, .int 1 v] }
 | .frz o u => h.get? a = some o ∧ ObjOk H h a u
 | .tbl ps => h.get? a = some { cls := .none, data := .fields ps }
 | .met f x => h.get? a = some (PySem.W.methodObj (.ref f) (.ref x))
 | .ext φ => φ h ∧ (∃ o, h.get? a = some o) ∧ ∀ h1 h2 : Heap, φ h1 → (∀ o, h1.get? a = some o → h2.get? a = some o) → φ h2
def HOk (H : Hp) (h : Heap) : Prop := ∀ a o, H a = some o → ObjOk P w H h a o
end

section
variable {P : Program} {w : World} {H H' : Hp} {h h' : Heap} {a : Addr} {o : HO}
theorem ObjOk.lt (x : ObjOk P w H h a o) : a < h.objs.size := by
 cases o with
 | lst xs => obtain ⟨_, _, _, _, e⟩ := x; exact Heap.lt_size e
 | tup xs => obtain ⟨_, _, _, p⟩ := x; exact p.lt
 | dK kvs => obtain ⟨_, _, _, _, o, _, _, e, _⟩ := x; exact Heap.lt_size e
 | dT kvs => obtain ⟨_, _, _, _, o, _, _, e, _⟩ := x; exact Heap.lt_size e
 | set S n => obtain ⟨o, _, _, _, e, _⟩ := x; exact Heap.lt_size e
 | ins C dx fs => obtain ⟨_, _, _, e, _⟩ := x; exact Heap.lt_size e
 | own y => obtain ⟨_, e⟩ := x; exact Heap.lt_size e
 | xd fs => obtain ⟨_, ⟨_, _, _, e, _⟩, _⟩ := x; exact Heap.lt_size e
 | rng lo hi => obtain ⟨_, _, _, e⟩ := x; exact Heap.lt_size e
 | frz ob u => obtain ⟨e, _⟩ := x; exact Heap.lt_size e
 | tbl ps => exact Heap.lt_size (show h.get? a = some _ from x)
 | met f y => exact Heap.lt_size (show h.get? a = some _ from x)
 | ext φ => obtain ⟨_, ⟨_, e⟩, _⟩ := x; exact Heap.lt_size e
theorem Paired.mapP {α β : Type} {F G : α → β → Prop} : ∀ {l₁ : List α} {l₂ : List β}, Paired F l₁ l₂ → (∀ a b, F a b → G a b) → Paired G l₁ l₂
 | _, _, .nil, _ => .nil
 | _, _, .cons r t, f => .cons (f _ _ r) (Paired.mapP t f)
theorem ObjOk.stay (x : ObjOk P w H h a o) (k : ∀ b u, (b = a ∨ H b = some (.own a)) → h.get? b = some u → h'.get? b = some u)
   (ho : ∀ b, H b = some (.own a) → H' b = some (.own a)) (ht : ∀ b xs, H b = some (.tup xs) → H' b = some (.tup xs)) : ObjOk P w H' h' a o := by
 induction o with
 | lst xs => obtain ⟨z, its, n, r, e⟩ := x; exact ⟨z, its, n, r, k _ _ (.inl rfl) e⟩
 | tup xs => obtain ⟨z, its, r, ob, e, c⟩ := x; exact ⟨z, its, r, ob, k _ _ (.inl rfl) e, c⟩
 | dK kvs => obtain ⟨z, y, vs, r, ob, es, ep, e, c⟩ := x; exact ⟨z, y, vs, r, ob, es, ep, k _ _ (.inl rfl) e, c⟩
 | dT kvs =>
   obtain ⟨z, y, xs, r, ob, es, ep, e, c⟩ := x
   exact ⟨z, y, xs, Paired.mapP r fun p q z => ⟨z.1, ht _ _ z.2.1, z.2.2⟩, ob, es, ep, k _ _ (.inl rfl) e, c⟩
 | set S n => obtain ⟨ob, es, ep, t, e, c⟩ := x; exact ⟨ob, es, ep, t, k _ _ (.inl rfl) e, c⟩
 | ins C dx fs =>
   obtain ⟨d, z, ne, e, mA, ⟨od, es, ep, e2, c⟩, r⟩ := x
   exact ⟨ho _ d, z, ne, k _ _ (.inl rfl) e, mA, ⟨od, es, ep, k _ _ (.inr d) e2, c⟩, r⟩
 | own y => obtain ⟨ob, e⟩ := x; exact ⟨ob, k _ _ (.inl rfl) e⟩
 | xd fs => obtain ⟨mA, ⟨od, es, ep, e, c⟩, r⟩ := x; exact ⟨mA, ⟨od, es, ep, k _ _ (.inl rfl) e, c⟩, r⟩
 | rng lo hi => obtain ⟨t, u, v, e⟩ := x; exact ⟨t, u, v, k _ _ (.inl rfl) e⟩
 | frz ob u ih => obtain ⟨e, q⟩ := x; exact ⟨k _ _ (.inl rfl) e, ih q⟩
 | tbl ps =>
   have e : h.get? a = some { cls := .none, data := .fields ps } := x
   show h'.get? a = some { cls := .none, data := .fields ps }
   exact k a _ (.inl rfl) e
 | met f y =>
   have e : h.get? a = some (PySem.W.methodObj (.ref f) (.ref y)) := x
   show h'.get? a = some (PySem.W.methodObj (.ref f) (.ref y))
   exact k a _ (.inl rfl) e
 | ext φ => obtain ⟨p, ⟨o, e⟩, st⟩ := x; exact ⟨st _ _ p fun o q => k _ _ (.inl rfl) q, ⟨o, k _ _ (.inl rfl) e⟩, st⟩
theorem HOk.lt (x : HOk P w H h) (e : H a = some o) : a < h.objs.size := (x a o e).lt
theorem HOk.fresh (x : HOk P w H h) (e : h.objs.size ≤ a) : H a = none := by
 cases q : H a with
 | none => rfl
 | some u => exact absurd (Nat.lt_of_lt_of_le (x.lt q) e) (Nat.lt_irrefl _)
theorem HOk.kept (x : HOk P w H h) (k : ∀ b u, h.get? b = some u → h'.get? b = some u) : HOk P w H h' := fun a o e =>
 (x a o e).stay (fun b u _ q => k b u q) (fun _ q => q) fun _ _ q => q
theorem HOk.laid (x : HOk P w H h) (k : ∀ b u, h.get? b = some u → h'.get? b = some u) (hp : h.objs.size ≤ a) (new : ObjOk P w (upd H a o) h' a o) : HOk P w (upd H a o) h' := fun b u e => by
 have hn := x.fresh hp
 by_cases hb : b = a
 · subst hb; rw [upd_same] at e; cases e; exact new
 · rw [upd_ne hb] at e
   exact (x b u e).stay (fun c v _ q => k c v q) (fun c q => by rw [upd_ne (ne_of_none q hn)]; exact q) fun c xs q => by rw [upd_ne (ne_of_none q hn)]; exact q
end
def Rd (H : Hp) (a : Addr) (u : HO) : Prop := H a = some u ∨ ∃ o, H a = some (.frz o u)
theorem Rd.of {H : Hp} {a : Addr} {u : HO} (h : H a = some u) : Rd H a u := .inl h
theorem Rd.ok {P : Program} {w : World} {H : Hp} {h : Heap} {a : Addr} {u : HO} (r : Rd H a u) (x : HOk P w H h) : ObjOk P w H h a u := by
 rcases r with r | ⟨o, r⟩
 · exact x a u r
 · obtain ⟨_, q⟩ := x a _ r
   exact q
def Mut : Option HO → Prop
 | some (.lst _) => True
 | some (.dK _) => True
 | some (.dT _) => True
 | some (.set _ _) => True
 | some (.ins _ _ _) => True
 | some (.ext _) => True
 | _ => False
section
variable {P : Program} {w : World} {H : Hp} {h h' : Heap} {x e : Addr} {o' : HO}
theorem HOk.write (ok : HOk P w H h) (mu : Mut (H x)) (he : e = x ∨ H e = some (.own x)) (k : ∀ b u, b ≠ e → h.get? b = some u → h'.get? b = some u) (heo : ∃ u, h'.get? e = some u)
   (new : ObjOk P w (upd H x o') h' x o') : HOk P w (upd H x o') h' := fun b u q => by
 have nown : ∀ c y, H c = some (.own y) → c ≠ x := fun c y r z => by subst z; rw [r] at mu; exact mu
 have ntup : ∀ c xs, H c = some (.tup xs) → c ≠ x := fun c xs r z => by subst z; rw [r] at mu; exact mu
 by_cases hb : b = x
 · subst hb; rw [upd_same] at q; cases q; exact new
 · rw [upd_ne hb] at q
   by_cases hbe : b = e
   · have q' : H b = some (.own x) := by
       rcases he with z | z
       · exact absurd (hbe.trans z) hb
       · rw [hbe]; exact z
     rw [q] at q'; cases q'
     obtain ⟨v, hv⟩ := heo
     exact ⟨v, by rw [hbe]; exact hv⟩
   · refine (ok b u q).stay (fun c v hc r => k c v ?_ r) (fun c r => by rw [upd_ne (nown c b r)]; exact r) fun c xs r => by rw [upd_ne (ntup c xs r)]; exact r
     rcases hc with rfl | hc
     · exact hbe
     · rintro rfl
       rcases he with z | z
       · exact nown c b hc z
       · rw [hc] at z; cases z; exact hb rfl
end
structure Un (fs ex : List Addr) (H H' : Hp) (h h' : Heap) : Prop where
 keep : ∀ b o, h.get? b = some o → H b = none → b ∉ fs → b ∉ ex → h'.get? b = some o
 slot : ∀ b o, h.get? b = some o → H b = none → b ∈ fs → b ∉ ex → ∃ sl, h'.get? b = some { o with slots := sl }
 free : ∀ b o, h.get? b = some o → H b = none → b ∉ ex → H' b = none
 there : ∀ b o, h.get? b = some o → b ∉ ex → ∃ o', h'.get? b = some o'
 tups : ∀ b xs, H b = some (.tup xs) → H' b = some (.tup xs)
 frzs : ∀ b o u, H b = some (.frz o u) → H' b = some (.frz o u)
 tbls : ∀ b ps, H b = some (.tbl ps) → ∃ more, H' b = some (.tbl (ps ++ more))
section
variable {fs fs' ex ex' : List Addr} {H H1 H2 : Hp} {h h1 h2 h' : Heap} {a x e : Addr} {o : HO}
theorem Un.any (u : Un fs ex H H1 h h1) {b : Addr} {ob : Obj} (q : h.get? b = some ob) (n : H b = none) (hx : b ∉ ex) : ∃ sl, h1.get? b = some { ob with slots := sl } := by
 by_cases hb : b ∈ fs
 · exact u.slot b ob q n hb hx
 · exact ⟨ob.slots, u.keep b ob q n hb hx⟩
theorem Un.trans (a : Un fs ex H H1 h h1) (b : Un fs ex H1 H2 h1 h2) : Un fs ex H H2 h h2 where
 keep := fun c ob q n hc hx => b.keep c ob (a.keep c ob q n hc hx) (a.free c ob q n hx) hc hx
 slot := fun c ob q n hc hx => by
   obtain ⟨sl, e1⟩ := a.slot c ob q n hc hx
   obtain ⟨sl', e2⟩ := b.slot c _ e1 (a.free c ob q n hx) hc hx
   exact ⟨sl', e2⟩
 free := fun c ob q n hx => by
   obtain ⟨o', e1⟩ := a.there c ob q hx
   exact b.free c o' e1 (a.free c ob q n hx) hx
 there := fun c ob q hx => by
   obtain ⟨o', e1⟩ := a.there c ob q hx
   exact b.there c o' e1 hx
 tups := fun c xs q => b.tups c xs (a.tups c xs q)
 frzs := fun c ob xs q => b.frzs c ob xs (a.frzs c ob xs q)
 tbls := fun c ps q => by
   obtain ⟨m1, e1⟩ := a.tbls c ps q
   obtain ⟨m2, e2⟩ := b.tbls c _ e1
   exact ⟨m1 ++ m2, by rw [e2, Array.append_assoc]⟩
theorem Un.kept (k : ∀ b u, h.get? b = some u → h'.get? b = some u) : Un fs ex H H h h' :=
 ⟨fun b ob q _ _ _ => k b ob q, fun b ob q _ _ _ => ⟨ob.slots, k b ob q⟩, fun _ _ _ n _ => n, fun b ob q _ => ⟨ob, k b ob q⟩, fun _ _ q => q, fun _ _ _ q => q, fun _ ps q => ⟨#[], by rw [q]; simp⟩⟩
theorem Un.refl : Un fs ex H H h h := Un.kept fun _ _ q => q
theorem Un.laid (k : ∀ b u, h.get? b = some u → h'.get? b = some u) (hp : h.objs.size ≤ a) (hn : H a = none) : Un fs ex H (upd H a o) h h' where
 keep := fun b u q _ _ _ => k b u q
 slot := fun b u q _ _ _ => ⟨u.slots, k b u q⟩
 free := fun b u q n _ => by rw [upd_ne (Nat.ne_of_lt (Nat.lt_of_lt_of_le (Heap.lt_size q) hp))]; exact n
 there := fun b u q _ => ⟨u, k b u q⟩
 tups := fun b xs q => by rw [upd_ne (ne_of_none q hn)]; exact q
 frzs := fun b u xs q => by rw [upd_ne (ne_of_none q hn)]; exact q
 tbls := fun b ps q => ⟨#[], by rw [upd_ne (ne_of_none q hn), q]; simp⟩
theorem Un.write (mu : Mut (H x)) (he : e = x ∨ H e = some (.own x)) (k : ∀ b u, b ≠ e → h.get? b = some u → h'.get? b = some u) (heo : ∃ u, h'.get? e = some u) : Un fs ex H (upd H x o) h h' := by
 have hx : ∀ b, H b = none → b ≠ x := fun b n z => by subst z; rw [n] at mu; exact mu
 have hb : ∀ b, H b = none → b ≠ e := fun b n z => by
   subst z
   rcases he with r | r
   · exact hx b n r
   · rw [n] at r; cases r
 have hm : ∀ b u, H b = some u → ¬ Mut (some u) → b ≠ x := fun b u q nm z => by subst z; rw [q] at mu; exact nm mu
 refine ⟨fun b u q n _ _ => k b u (hb b n) q, fun b u q n _ _ => ⟨u.slots, k b u (hb b n) q⟩, fun b u q n _ => by rw [upd_ne (hx b n)]; exact n, fun b u q _ => ?_,
   fun b xs q => by rw [upd_ne (hm b _ q fun z => z)]; exact q, fun b u xs q => by rw [upd_ne (hm b _ q fun z => z)]; exact q, fun b ps q => ⟨#[], by rw [upd_ne (hm b _ q fun z => z), q]; simp⟩⟩
 by_cases hbe : b = e
 · subst hbe; exact heo
 · exact ⟨u, k b u hbe q⟩
theorem Un.mono (u : Un fs ex H H1 h h1) (hs : ∀ b ∈ fs, b ∈ fs') (hx : ∀ b ∈ ex, b ∈ ex') : Un fs' ex' H H1 h h1 :=
 ⟨fun b ob q n hb he => u.keep b ob q n (fun z => hb (hs b z)) fun z => he (hx b z), fun _ _ q n _ he => u.any q n fun z => he (hx _ z), fun b ob q n he => u.free b ob q n fun z => he (hx b z), fun b ob q he => u.there b ob q fun z => he (hx b z), u.tups, u.frzs, u.tbls⟩
end
def trk (h : Heap) (H : Hp) : List Addr := (List.range h.objs.size).filter fun a => (H a).isSome
def hidT (h : Heap) (H : Hp) : Heap := PySem.W.hideAll h (trk h H)
theorem hidT_size (h : Heap) (H : Hp) : (hidT h H).objs.size = h.objs.size := PySem.W.hideAll_size _ _
theorem hidT_get {h : Heap} {H : Hp} {b : Addr} {o : Obj} (e : h.get? b = some o) (n : H b = none) : (hidT h H).get? b = some o :=
 PySem.W.hideAll_get _ e fun hm => by
   have q : (H b).isSome = true := (List.mem_filter.mp hm).2
   rw [n] at q; simp at q
theorem of_hidT {h : Heap} {H : Hp} {b : Addr} {o : Obj} (e : (hidT h H).get? b = some o) : h.get? b = some o ∧ H b = none := by
 have e' : h.get? b = some o := PySem.W.of_hideAll (trk h H) e
 refine ⟨e', ?_⟩
 cases q : H b with
 | none => rfl
 | some x =>
   have hm : b ∈ trk h H := List.mem_filter.mpr ⟨List.mem_range.mpr (Heap.lt_size e'), by simp [q]⟩
   have z : (hidT h H).get? b = none := PySem.W.hideAll_none (trk h H) hm
   rw [z] at e; cases e
def allNews (g h : Heap) (L : Addr) : List (Addr × Obj) := (List.range h.objs.size).filterMap fun a => if a = L ∨ (g.get? a).isSome = true then none else (h.get? a).map fun o => (a, o)
theorem mem_allNews {g h : Heap} {L a : Addr} {o : Obj} (h1 : a ≠ L) (h2 : g.get? a = none) (h3 : h.get? a = some o) : (a, o) ∈ allNews g h L :=
 List.mem_filterMap.mpr ⟨a, List.mem_range.mpr (Heap.lt_size h3), by simp [h1, h2, h3]⟩
theorem of_mem_allNews {g h : Heap} {L : Addr} {p : Addr × Obj} (hp : p ∈ allNews g h L) : p.1 ≠ L ∧ g.get? p.1 = none ∧ h.get? p.1 = some p.2 := by
 obtain ⟨b, _, e⟩ := List.mem_filterMap.mp hp
 split at e
 · cases e
 · rename_i hn
   cases q : h.get? b with
   | none => rw [q] at e; simp at e
   | some u =>
     rw [q] at e
     simp only [Option.map_some, Option.some.injEq] at e
     subst e
     refine ⟨fun z => hn (.inl z), ?_, q⟩
     show g.get? b = none
     cases r : g.get? b with
     | none => rfl
     | some v => exact (hn (.inr (by simp [r]))).elim
def rest (g h : Heap) (L d : Addr) : List (Addr × Obj) := (allNews g h L).filter fun p => decide (p.1 ≠ d)
theorem news_all {g h : Heap} {L : Addr} : News g L h (allNews g h L) := fun p hp => let ⟨a, b, c⟩ := of_mem_allNews hp; ⟨c, a, b⟩
end L2

namespace L2
open PySem PySem.Spec PyProof.Rows
structure Mod (K : PySem.W.Frag) (mg : Str → Option Value) (base : Heap) : Prop where
 kin : K.In base
 glob : base.Ns mainGlobals mg
 blt : ∃ mb, base.Ns builtinsNs mb ∧ ∀ x : Str, x ≠ "__name__" → mb x = bootBuiltins x
 nolimit : base.NoLimit

/-- the context: a def's body (or a comprehension's block) running. base: fixed through the whole law; s₀, H₀: the entry; outer: the frames whose slots others may change (a def's callers); stack: all frames that run;
   ex: iterators that were made ahead of the entry and are walked here (a comprehension's); fn: the names whose cells were made at the entry (a def: all; a comprehension's block: its own); calm: not within an except suite; pn: pins that every state bears; xe: what is wanted of an exception that leaves the code -/
structure Cx where
 prog : Program
 w : World
 K : PySem.W.Frag
 mg : Str → Option Value
 base : Heap
 A : Around
 N : List Str
 s₀ : Shared
 H₀ : Hp
 env : Env
 outer : List Env
 stack : List Env
 ex : List Addr
 fn : Str → Bool
 calm : Bool
 pn : List (Addr × Obj)
 xe : Value → Shared → Prop
def frs (l : List Env) : List Addr := l.filterMap (·.frame)
abbrev Cx.fs (X : Cx) : List Addr := frs X.outer

def Vis (sc : Scope) (x : Str) : Prop := sc.names.lookup x = some .local ∨ sc.names.lookup x = some .cell ∨ sc.names.lookup x = some .free
def Loc (sc : Scope) (x : Str) : Prop := sc.names.lookup x = some .local ∨ sc.names.lookup x = some .cell
def Look (env : Env) (h : Heap) (m : Str → Option Value) (x : Str) (u : Value) : Prop :=
 (env.kindOf x = some .local ∧ m x = some u) ∨ ((env.kindOf x = some .cell ∨ env.kindOf x = some .free) ∧ ∃ c, env.cells.lookup x = some c ∧ h.IsCell c (some u))

structure Cx.Ok (X : Cx) : Prop where
 mod : Mod X.K X.mg X.base
 kind : X.env.scope.kind = .function
 glob : X.env.globals = mainGlobals
 blt : X.env.builtins = builtinsNs
 above : X.s₀.heap.objs.size ≤ X.env.locals
 inj : ∀ x y c, X.env.cells.lookup x = some c → X.env.cells.lookup y = some c → x = y
 has : ∀ x, (X.env.kindOf x = some .cell ∨ X.env.kindOf x = some .free) → ∃ c, X.env.cells.lookup x = some c
 cab : ∀ x c, X.fn x = true → X.env.cells.lookup x = some c → X.s₀.heap.objs.size ≤ c
 hd : X.calm = true → X.A.handled = none
 frames : X.A.frames = some X.stack
 stk : X.stack = X.outer ∨ (X.stack = X.env :: X.outer ∧ X.env.frame = some X.env.locals)
 exf : ∀ b ∈ X.ex, b ≠ X.env.locals ∧ ∀ x c, X.env.cells.lookup x = some c → c ≠ b
 bs : ∀ b o, X.base.get? b = some o → X.s₀.heap.get? b = some o ∧ X.H₀ b = none
 bsz : X.base.objs.size ≤ X.s₀.heap.objs.size
 noex : ∀ b o, X.base.get? b = some o → b ∉ X.ex
 exfs : ∀ b ∈ X.ex, b ∉ X.fs
 funs : X.s₀.heap.FunFrames X.base X.outer
 frf : ∀ b ∈ X.fs, X.H₀ b = none

structure Inv (X : Cx) (pins : List (Addr × Obj)) (σ : List (Option V)) (H : Hp) (s : Shared) : Prop where
 ok : X.Ok
 os : s.os = X.s₀.os
 bare : AllBare s.gens
 base : Un X.fs X.ex X.H₀ H X.s₀.heap s.heap
 loc : ∃ m, s.heap.Ns X.env.locals m ∧ ∀ (i : Nat) (x : Str) (v : V), X.N[i]? = some x → σ[i]? = some (some v) → Vis X.env.scope x → ∃ u, RelV v u ∧ Look X.env s.heap m x u
 cell : ∀ x c, X.env.cells.lookup x = some c → ∃ v, s.heap.IsCell c v
 free : H X.env.locals = none
 freeC : ∀ x c, X.env.cells.lookup x = some c → H c = none
 pin : ∀ p ∈ X.pn ++ pins, s.heap.get? p.1 = some p.2 ∧ H p.1 = none ∧ p.1 ≠ X.env.locals ∧ p.1 ∉ X.fs ∧ ∀ v, p.2.data ≠ .cell v
 hok : HOk X.prog X.w H s.heap
 len : σ.length = X.N.length

section
variable {X : Cx} {pins : List (Addr × Obj)} {σ : List (Option V)} {H H' : Hp} {s : Shared} {h' : Heap}

theorem Cx.Ok.nofr (ok : X.Ok) {b : Addr} {o : Obj} (e : X.base.get? b = some o) : b ∉ X.fs := fun hb => by
 have := (ok.funs.mem hb).1
 rw [e] at this; cases this
theorem Inv.bs (I : Inv X pins σ H s) : ∀ b o, X.base.get? b = some o → s.heap.get? b = some o ∧ H b = none := fun b o e =>
 ⟨I.base.keep b o (I.ok.bs b o e).1 (I.ok.bs b o e).2 (I.ok.nofr e) (I.ok.noex b o e), I.base.free b o (I.ok.bs b o e).1 (I.ok.bs b o e).2 (I.ok.noex b o e)⟩
theorem Inv.bk (I : Inv X pins σ H s) : ∀ b o, X.base.get? b = some o → s.heap.get? b = some o := fun b o e => (I.bs b o e).1
theorem Inv.mod (I : Inv X pins σ H s) : Mod X.K X.mg X.base := I.ok.mod
theorem Inv.kIn (I : Inv X pins σ H s) : X.K.In s.heap := I.ok.mod.kin.keeps I.bk
theorem Inv.nolimit (I : Inv X pins σ H s) : s.heap.NoLimit := I.ok.mod.nolimit.keeps I.bk
theorem Inv.fr (I : Inv X pins σ H s) : ∃ m, Fr X.base X.env.locals s.heap m :=
 let ⟨m, hn, _⟩ := I.loc
 ⟨m, hn, I.bk, Nat.le_trans I.ok.bsz I.ok.above⟩
theorem Inv.lt (I : Inv X pins σ H s) : X.env.locals < s.heap.objs.size := let ⟨_, hn, _⟩ := I.loc; hn.lt
theorem Inv.sz (I : Inv X pins σ H s) : X.s₀.heap.objs.size ≤ s.heap.objs.size := Nat.le_trans I.ok.above (Nat.le_of_lt I.lt)
theorem Inv.nofs (I : Inv X pins σ H s) {a : Addr} (h : s.heap.objs.size ≤ a) : a ∉ X.fs := fun hb => by
 obtain ⟨_, o, ho, _⟩ := I.ok.funs.mem hb
 exact absurd (Nat.lt_of_lt_of_le (Heap.lt_size ho) (Nat.le_trans I.sz h)) (Nat.lt_irrefl _)
theorem Inv.cne (I : Inv X pins σ H s) : ∀ x c, X.env.cells.lookup x = some c → c ≠ X.env.locals := fun x c e z => by
 obtain ⟨v, o, ho, hd⟩ := I.cell x c e
 obtain ⟨m, ⟨o', es, ep, ho', hd', _⟩, _⟩ := I.loc
 rw [z, ho'] at ho; cases ho; rw [hd'] at hd; cases hd
theorem Inv.funs (I : Inv X pins σ H s) : s.heap.FunFrames X.base X.outer := by
 have all : ∀ (l : List Env), (∀ b ∈ frs l, b ∈ X.fs) → X.s₀.heap.FunFrames X.base l → s.heap.FunFrames X.base l := by
   intro l
   induction l with
   | nil => intro _ _; trivial
   | cons env r ih =>
     intro hs hl
     obtain ⟨hk, ⟨L, o, hf, hn, ho, hd⟩, hr⟩ := hl
     have hL : L ∈ X.fs := hs L (by unfold frs; rw [List.filterMap_cons, hf]; exact List.mem_cons_self)
     obtain ⟨sl, e⟩ := I.base.slot L o ho (I.ok.frf L hL) hL fun z => I.ok.exfs L z hL
     exact ⟨hk, ⟨L, _, hf, hn, e, hd⟩, ih (fun b hb => hs b (by unfold frs; rw [List.filterMap_cons, hf]; exact List.mem_cons_of_mem _ hb)) hr⟩
 exact all X.outer (fun _ hb => hb) I.ok.funs
theorem Inv.stack (I : Inv X pins σ H s) : s.heap.FunFrames X.base X.stack := by
 rcases I.ok.stk with e | ⟨e, hf⟩
 · rw [e]; exact I.funs
 · rw [e]
   obtain ⟨m, hn, _⟩ := I.loc
   refine .cons (by rw [I.ok.kind]; decide) hf hn ?_ I.funs
   exact Heap.get?_none_of_le (Nat.le_trans I.ok.bsz I.ok.above)
theorem Inv.stkSub (I : Inv X pins σ H s) : ∀ b ∈ frs X.stack, b ∈ X.env.locals :: X.fs := fun b hb => by
 rcases I.ok.stk with e | ⟨e, hf⟩
 · rw [e] at hb; exact List.mem_cons_of_mem _ hb
 · rw [e] at hb
   unfold frs at hb
   rw [List.filterMap_cons, hf] at hb
   exact hb
theorem Inv.stkFree (I : Inv X pins σ H s) : ∀ b ∈ frs X.stack, H b = none := fun b hb => by
 rcases List.mem_cons.mp (I.stkSub b hb) with e | hb
 · rw [e]; exact I.free
 · obtain ⟨_, o, ho, _⟩ := I.ok.funs.mem hb
   exact I.base.free b o ho (I.ok.frf b hb) fun z => I.ok.exfs b z hb
theorem Inv.step {g' : Array GenState} {t' : Nat} {d' : Drawn} {ch : List Addr} (I : Inv X pins σ H s)
   (hch : ∀ b ∈ ch, (b ∈ X.ex ∨ X.s₀.heap.objs.size ≤ b) ∧ b ≠ X.env.locals ∧ (∀ x c, X.env.cells.lookup x = some c → c ≠ b) ∧ ∀ p ∈ X.pn ++ pins, p.1 ≠ b)
   (keep : ∀ b o, b ≠ X.env.locals → b ∉ X.fs → b ∉ ch → s.heap.get? b = some o → H b = none → h'.get? b = some o)
   (slot : ∀ b o, b ≠ X.env.locals → b ∈ X.fs → b ∉ ch → s.heap.get? b = some o → H b = none → ∃ sl, h'.get? b = some { o with slots := sl }) (free : ∀ b o, b ∉ ch → s.heap.get? b = some o → H b = none → H' b = none)
   (there : ∀ b o, b ∉ ch → s.heap.get? b = some o → ∃ o', h'.get? b = some o')
   (tups : ∀ b xs, H b = some (.tup xs) → H' b = some (.tup xs)) (frzs : ∀ b o u, H b = some (.frz o u) → H' b = some (.frz o u)) (tbls : ∀ b ps, H b = some (.tbl ps) → ∃ more, H' b = some (.tbl (ps ++ more)))
   (ns : ∀ m, s.heap.Ns X.env.locals m → h'.Ns X.env.locals m) (hok : HOk X.prog X.w H' h') (hg : AllBare g') :
   Inv X pins σ H' { s with heap := h', gens := g', drawn := d', toks := t' } := by
 have neL : ∀ b o, X.s₀.heap.get? b = some o → b ≠ X.env.locals := fun b o e => Nat.ne_of_lt (Nat.lt_of_lt_of_le (Heap.lt_size e) I.ok.above)
 have neC : ∀ b o, X.s₀.heap.get? b = some o → b ∉ X.ex → b ∉ ch := fun b o e hx hb => by
   rcases (hch b hb).1 with z | z
   · exact hx z
   · exact absurd (Nat.lt_of_lt_of_le (Heap.lt_size e) z) (Nat.lt_irrefl _)
 have cellK : ∀ x c, X.env.cells.lookup x = some c → ∀ v, s.heap.IsCell c v → h'.IsCell c v := fun x c e v ⟨o, ho, hd⟩ => by
   have nch : c ∉ ch := fun z => (hch c z).2.2.1 x c e rfl
   by_cases hc : c ∈ X.fs
   · obtain ⟨sl, q⟩ := slot c o (I.cne x c e) hc nch ho (I.freeC x c e)
     exact ⟨_, q, hd⟩
   · exact ⟨o, keep c o (I.cne x c e) hc nch ho (I.freeC x c e), hd⟩
 refine ⟨I.ok, I.os, hg, ⟨fun b o e n hb hx => ?_, fun b o e n hb hx => ?_, fun b o e n hx => ?_, fun b o e hx => ?_, fun b xs e => tups b xs (I.base.tups b xs e), fun b o xs e => frzs b o xs (I.base.frzs b o xs e), fun b ps e => ?_⟩, ?_, fun x c e => ?_, ?_, fun x c e => ?_, fun p hp => ?_, hok, I.len⟩
 · exact keep b o (neL b o e) hb (neC b o e hx) (I.base.keep b o e n hb hx) (I.base.free b o e n hx)
 · obtain ⟨sl, e1⟩ := I.base.slot b o e n hb hx
   obtain ⟨sl', e2⟩ := slot b _ (neL b o e) hb (neC b o e hx) e1 (I.base.free b o e n hx)
   exact ⟨sl', e2⟩
 · obtain ⟨o', e1⟩ := I.base.there b o e hx
   exact free b o' (neC b o e hx) e1 (I.base.free b o e n hx)
 · obtain ⟨o', e1⟩ := I.base.there b o e hx
   exact there b o' (neC b o e hx) e1
 · obtain ⟨m1, e1⟩ := I.base.tbls b ps e
   obtain ⟨m2, e2⟩ := tbls b _ e1
   exact ⟨m1 ++ m2, by rw [e2, Array.append_assoc]⟩
 · obtain ⟨m, hn, hl⟩ := I.loc
   refine ⟨m, ns m hn, fun i x v e1 e2 e3 => ?_⟩
   obtain ⟨u, r, l⟩ := hl i x v e1 e2 e3
   refine ⟨u, r, ?_⟩
   rcases l with l | ⟨k, c, e, z⟩
   · exact .inl l
   · exact .inr ⟨k, c, e, cellK x c e _ z⟩
 · obtain ⟨v, z⟩ := I.cell x c e
   exact ⟨v, cellK x c e v z⟩
 · obtain ⟨m, ⟨o, _, _, ho, _⟩, _⟩ := I.loc
   exact free _ o (fun z => (hch _ z).2.1 rfl) ho I.free
 · obtain ⟨v, o, ho, hd⟩ := I.cell x c e
   exact free c o (fun z => (hch c z).2.2.1 x c e rfl) ho (I.freeC x c e)
 · obtain ⟨e, n, ne, nf, d⟩ := I.pin p hp
   have nch : p.1 ∉ ch := fun z => (hch p.1 z).2.2.2 p hp rfl
   exact ⟨keep p.1 p.2 ne nf nch e n, free p.1 p.2 nch e n, ne, nf, d⟩
theorem Inv.un {t' : Nat} (I : Inv X pins σ H s) (u : Un X.fs [] H H' s.heap h') (hok : HOk X.prog X.w H' h') : Inv X pins σ H' { s with heap := h', toks := t' } := by
 obtain ⟨m, ⟨o, es, ep, ho, r⟩, _⟩ := id I.loc
 obtain ⟨sl, hL⟩ := u.any ho I.free (by simp)
 exact I.step (g' := s.gens) (d' := s.drawn) (ch := []) (fun _ z => nomatch z) (fun b o _ hb _ e n => u.keep b o e n hb (by simp)) (fun b o _ hb _ e n => u.slot b o e n hb (by simp)) (fun b o _ e n => u.free b o e n (by simp)) (fun b o _ e => u.there b o e (by simp)) u.tups u.frzs u.tbls (fun m' hm => by
   obtain ⟨o', es', ep', ho', r'⟩ := hm
   rw [ho] at ho'; cases ho'
   exact ⟨_, es', ep', hL, r'⟩) hok I.bare
theorem Inv.call {g' : Array GenState} {t' : Nat} {d' : Drawn} {ch : List Addr} (I : Inv X pins σ H s) (u : Un (frs X.stack) ch H H' s.heap h') (hok : HOk X.prog X.w H' h') (hg : AllBare g')
   (hch : ∀ b ∈ ch, (b ∈ X.ex ∨ X.s₀.heap.objs.size ≤ b) ∧ b ≠ X.env.locals ∧ (∀ x c, X.env.cells.lookup x = some c → c ≠ b) ∧ ∀ p ∈ X.pn ++ pins, p.1 ≠ b) :
   Inv X pins σ H' { s with heap := h', gens := g', drawn := d', toks := t' } := by
 obtain ⟨m, ⟨o, es, ep, ho, r⟩, _⟩ := id I.loc
 obtain ⟨sl, hL⟩ := u.any ho I.free fun z => (hch _ z).2.1 rfl
 exact I.step (ch := ch) hch (fun b o hL hb hc e n => u.keep b o e n (fun z => (List.mem_cons.mp (I.stkSub b z)).elim hL hb) hc) (fun b o _ _ hc e n => u.any e n hc) (fun b o hc e n => u.free b o e n hc) (fun b o hc e => u.there b o e hc) u.tups u.frzs u.tbls (fun m' hm => by
   obtain ⟨o', es', ep', ho', r'⟩ := hm
   rw [ho] at ho'; cases ho'
   exact ⟨_, es', ep', hL, r'⟩) hok hg
theorem Inv.turned {t' : Nat} {it : Addr} (I : Inv X pins σ H s) (k : ∀ b o, b ≠ it → s.heap.get? b = some o → h'.get? b = some o) (hn : H it = none) (hL : it ≠ X.env.locals)
   (h1 : it ∈ X.ex ∨ X.s₀.heap.objs.size ≤ it) (h2 : ∀ x c, X.env.cells.lookup x = some c → c ≠ it) (h3 : ∀ p ∈ X.pn ++ pins, p.1 ≠ it) : Inv X pins σ H { s with heap := h', toks := t' } := by
 have nit : ∀ b u, H b = some u → b ≠ it := fun b u e z => by rw [z, hn] at e; cases e
 refine I.step (g' := s.gens) (d' := s.drawn) (ch := [it]) (fun b hb => ?_) (fun b o _ _ hc e _ => k b o (fun z => hc (by simp [z])) e) (fun b o _ _ hc e _ => ⟨o.slots, k b o (fun z => hc (by simp [z])) e⟩) (fun _ _ _ _ n => n)
   (fun b o hc e => ⟨o, k b o (fun z => hc (by simp [z])) e⟩) (fun _ _ e => e) (fun _ _ _ e => e) (fun b ps e => ⟨#[], by rw [e]; simp⟩) (fun m hm => ?_) (fun b u e => ?_) I.bare
 · have e : b = it := by simpa using hb
   subst e
   exact ⟨h1, hL, h2, h3⟩
 · obtain ⟨o, es, ep, ho, r⟩ := hm
   exact ⟨o, es, ep, k _ o (Ne.symm hL) ho, r⟩
 · refine (I.hok b u e).stay (fun c v hc q => k c v ?_ q) (fun _ q => q) fun _ _ q => q
   rcases hc with z | z
   · rw [z]; exact nit b u e
   · exact nit c _ z
theorem Inv.tok (I : Inv X pins σ H s) (t : Nat) : Inv X pins σ H { s with toks := t } := I.un (h' := s.heap) (t' := t) Un.refl I.hok
theorem Inv.kept {t' : Nat} (I : Inv X pins σ H s) (k : ∀ b u, s.heap.get? b = some u → h'.get? b = some u) : Inv X pins σ H { s with heap := h', toks := t' } := I.un (Un.kept k) (I.hok.kept k)
theorem Inv.laid {a : Addr} {o : HO} {t' : Nat} (I : Inv X pins σ H s) (k : ∀ b u, s.heap.get? b = some u → h'.get? b = some u) (hp : s.heap.objs.size ≤ a) (new : ObjOk X.prog X.w (upd H a o) h' a o) :
 Inv X pins σ (upd H a o) { s with heap := h', toks := t' } := I.un (Un.laid k hp (I.hok.fresh hp)) (I.hok.laid k hp new)
theorem Inv.write {x e : Addr} {o : HO} {t' : Nat} (I : Inv X pins σ H s) (mu : Mut (H x)) (he : e = x ∨ H e = some (.own x)) (k : ∀ b u, b ≠ e → s.heap.get? b = some u → h'.get? b = some u) (heo : ∃ u, h'.get? e = some u)
 (new : ObjOk X.prog X.w (upd H x o) h' x o) : Inv X pins σ (upd H x o) { s with heap := h', toks := t' } := I.un (Un.write mu he k heo) (I.hok.write mu he k heo new)
theorem Inv.weak {σ' : List (Option V)} (I : Inv X pins σ H s) (hl : σ'.length = σ.length) (w : ∀ (i : Nat) v, σ'[i]? = some (some v) → σ[i]? = some (some v)) : Inv X pins σ' H s :=
 ⟨I.ok, I.os, I.bare, I.base, let ⟨m, hn, hl'⟩ := I.loc; ⟨m, hn, fun i x v e1 e2 e3 => hl' i x v e1 (w i v e2) e3⟩, I.cell, I.free, I.freeC, I.pin, I.hok, hl.trans I.len⟩
theorem Inv.pins_of {pins' : List (Addr × Obj)} (I : Inv X pins σ H s) (h : ∀ p ∈ pins', s.heap.get? p.1 = some p.2 ∧ H p.1 = none ∧ p.1 ≠ X.env.locals ∧ p.1 ∉ X.fs ∧ ∀ v, p.2.data ≠ .cell v) : Inv X pins' σ H s :=
 ⟨I.ok, I.os, I.bare, I.base, I.loc, I.cell, I.free, I.freeC, fun p hp => (List.mem_append.mp hp).elim (fun z => I.pin p (List.mem_append_left _ z)) (h p), I.hok, I.len⟩

theorem nodup_ix {N : List Str} (hN : N.Nodup) {i j : Nat} {x : Str} (a : N[i]? = some x) (b : N[j]? = some x) : i = j := by
 obtain ⟨h1, e1⟩ := List.getElem?_eq_some_iff.mp a
 obtain ⟨h2, e2⟩ := List.getElem?_eq_some_iff.mp b
 exact (List.getElem_inj hN).mp (e1.trans e2.symm)
theorem store_ok2 {M : Model} {A : Around} {E : Value → Shared → Prop} {i : Nat} {x : Str} {v : V} {u : Value} {Q : Unit → Shared → Prop} (I : Inv X pins σ H s) (hN : X.N.Nodup) (hi : X.N[i]? = some x) (hx : Loc X.env.scope x) (r : RelV v u)
   (h : ∀ s', Inv X pins (σ.set i (some v)) H s' → (∃ a, Heap.SameBut a s.heap s'.heap ∧ (a = X.env.locals ∨ X.env.cells.lookup x = some a)) → Q () s') (hf : X.fn x = true ∨ X.env.scope.names.lookup x = some .local := by first | exact .inl rfl | exact .inr rfl | assumption) : wpAny M A (storeName X.env x u) Q E s := by
 obtain ⟨m, hn, hl⟩ := id I.loc
 have hcls : (X.env.scope.kind == .class || (X.env.scope.kind == .module && X.env.locals != X.env.globals)) = false := by rw [I.ok.kind]; rfl
 have hiσ : i < σ.length := by rw [I.len]; exact (List.getElem?_eq_some_iff.mp hi).1
 have cne := I.cne
 have tracked : ∀ {a : Addr} {h' : Heap}, (∃ o, s.heap.get? a = some o ∧ H a = none) → Heap.SameBut a s.heap h' → HOk X.prog X.w H h' := fun {a h'} ha hs b ob e => by
   obtain ⟨_, _, hfree⟩ := ha
   refine (I.hok b ob e).stay (fun c w' hc q => (hs.2 c ?_).trans q) (fun _ q => q) fun _ _ q => q
   rintro rfl
   rcases hc with rfl | hc
   · rw [hfree] at e; cases e
   · rw [hfree] at hc; cases hc
 rcases hx with hk | hk
 · refine wpAny_storeName_local hk hn (fun h' hn' hs => ?_) hcls
   obtain ⟨oL, _, _, hoL, _⟩ := id hn
   refine h _ ⟨I.ok, I.os, I.bare, ⟨fun b o e n hb hx => ?_, fun b o e n hb hx => ?_, I.base.free, fun b o e hx => ?_, I.base.tups, I.base.frzs, I.base.tbls⟩, ⟨_, hn', fun j y v' e1 e2 e3 => ?_⟩, fun y c e => ?_, I.free, I.freeC, fun p hp => ?_, tracked ⟨oL, hoL, I.free⟩ hs, by simpa using I.len⟩ ⟨_, hs, .inl rfl⟩
   · exact (hs.2 b (Nat.ne_of_lt (Nat.lt_of_lt_of_le (Heap.lt_size e) I.ok.above))).trans (I.base.keep b o e n hb hx)
   · obtain ⟨sl, e1⟩ := I.base.slot b o e n hb hx
     exact ⟨sl, (hs.2 b (Nat.ne_of_lt (Nat.lt_of_lt_of_le (Heap.lt_size e) I.ok.above))).trans e1⟩
   · obtain ⟨o', e1⟩ := I.base.there b o e hx
     exact ⟨o', (hs.2 b (Nat.ne_of_lt (Nat.lt_of_lt_of_le (Heap.lt_size e) I.ok.above))).trans e1⟩
   · by_cases hj : j = i
     · subst hj
       rw [hi] at e1; cases e1
       rw [List.getElem?_set_self hiσ] at e2
       cases e2
       exact ⟨u, r, .inl ⟨hk, by simp⟩⟩
     · rw [List.getElem?_set_ne (Ne.symm hj)] at e2
       obtain ⟨u', r', q⟩ := hl j y v' e1 e2 e3
       refine ⟨u', r', ?_⟩
       rcases q with ⟨k, e⟩ | ⟨k, c, e, z⟩
       · refine .inl ⟨k, ?_⟩
         have : y ≠ x := fun e => hj (nodup_ix hN e1 (e ▸ hi))
         simp [this, e]
       · exact .inr ⟨k, c, e, z.sameBut hs (cne y c e)⟩
   · obtain ⟨w', z⟩ := I.cell y c e
     exact ⟨w', z.sameBut hs (cne y c e)⟩
   · obtain ⟨e, n, ne, nf, d⟩ := I.pin p hp
     exact ⟨(hs.2 p.1 ne).trans e, n, ne, nf, d⟩
 · have hfn : X.fn x = true := by
     rcases hf with z | z
     · exact z
     · rw [z] at hk; cases hk
   obtain ⟨c, hc⟩ := I.ok.has x (.inl hk)
   obtain ⟨w', z⟩ := I.cell x c hc
   refine wpAny_storeName_cell I.ok.kind hk hc z (fun h' hc' hs => ?_)
   obtain ⟨oc, hoc, hocd⟩ := id z
   refine h { s with heap := h' } ⟨I.ok, I.os, I.bare, ⟨fun b o e n hb hx => ?_, fun b o e n hb hx => ?_, I.base.free, fun b o e hx => ?_, I.base.tups, I.base.frzs, I.base.tbls⟩, ⟨m, hn.sameBut hs (Ne.symm (cne x c hc)), fun j y v' e1 e2 e3 => ?_⟩, fun y c' e => ?_, I.free, I.freeC, fun p hp => ?_, tracked ⟨oc, hoc, I.freeC x c hc⟩ hs, by simpa using I.len⟩ ⟨c, hs, .inr hc⟩
   · exact (hs.2 b (Nat.ne_of_lt (Nat.lt_of_lt_of_le (Heap.lt_size e) (I.ok.cab x c hfn hc)))).trans (I.base.keep b o e n hb hx)
   · obtain ⟨sl, e1⟩ := I.base.slot b o e n hb hx
     exact ⟨sl, (hs.2 b (Nat.ne_of_lt (Nat.lt_of_lt_of_le (Heap.lt_size e) (I.ok.cab x c hfn hc)))).trans e1⟩
   · obtain ⟨o', e1⟩ := I.base.there b o e hx
     exact ⟨o', (hs.2 b (Nat.ne_of_lt (Nat.lt_of_lt_of_le (Heap.lt_size e) (I.ok.cab x c hfn hc)))).trans e1⟩
   · by_cases hj : j = i
     · subst hj
       rw [hi] at e1; cases e1
       rw [List.getElem?_set_self hiσ] at e2
       cases e2
       exact ⟨u, r, .inr ⟨.inl hk, c, hc, hc'⟩⟩
     · rw [List.getElem?_set_ne (Ne.symm hj)] at e2
       obtain ⟨u', r', q⟩ := hl j y v' e1 e2 e3
       refine ⟨u', r', ?_⟩
       rcases q with q | ⟨k, c', e, z'⟩
       · exact .inl q
       · refine .inr ⟨k, c', e, z'.sameBut hs ?_⟩
         rintro rfl
         exact hj (nodup_ix hN e1 (I.ok.inj _ _ _ e hc ▸ hi))
   · by_cases hcc : c' = c
     · subst hcc; exact ⟨_, hc'⟩
     · obtain ⟨w2, z2⟩ := I.cell y c' e
       exact ⟨w2, z2.sameBut hs hcc⟩
   · obtain ⟨e, n, ne, nf, d⟩ := I.pin p hp
     refine ⟨(hs.2 p.1 ?_).trans e, n, ne, nf, d⟩
     intro q
     rw [q, hoc] at e
     have q' : oc = p.2 := Option.some.inj e
     exact d w' (by rw [← q']; exact hocd)
theorem store_ok {M : Model} {A : Around} {E : Value → Shared → Prop} {i : Nat} {x : Str} {v : V} {u : Value} {Q : Unit → Shared → Prop} (I : Inv X pins σ H s) (hN : X.N.Nodup) (hi : X.N[i]? = some x) (hx : Loc X.env.scope x) (r : RelV v u)
   (h : ∀ s', Inv X pins (σ.set i (some v)) H s' → Q () s') (hf : X.fn x = true ∨ X.env.scope.names.lookup x = some .local := by first | exact .inl rfl | exact .inr rfl | assumption) : wpAny M A (storeName X.env x u) Q E s :=
 store_ok2 I hN hi hx r (fun s' I' _ => h s' I') hf
theorem Inv.call' {s' : Shared} {ch : List Addr} (I : Inv X pins σ H s) (ho : s'.os = s.os) (u : Un (frs X.stack) ch H H' s.heap s'.heap) (hok : HOk X.prog X.w H' s'.heap) (hg : AllBare s'.gens)
   (hch : ∀ b ∈ ch, (b ∈ X.ex ∨ X.s₀.heap.objs.size ≤ b) ∧ b ≠ X.env.locals ∧ (∀ x c, X.env.cells.lookup x = some c → c ≠ b) ∧ ∀ p ∈ X.pn ++ pins, p.1 ≠ b) : Inv X pins σ H' s' := by
 obtain ⟨h', g', d', t', o'⟩ := s'
 have e : o' = s.os := ho
 subst e
 exact I.call (g' := g') (t' := t') (d' := d') u hok hg hch
end
abbrev XK := Value → Option Addr → Hp → Prop
abbrev St := List (Option V)
abbrev VK := V → Hp → Prop
abbrev TE := St → Hp → VK → Prop
abbrev TT := St → Hp → (Bool → Hp → Prop) → Prop
abbrev TA := St → Hp → (List V → Hp → Prop) → Prop
structure Ends where
 nx : St → Hp → Prop
 rt : VK
 bk : St → Hp → Prop := fun _ _ => False
 ct : St → Hp → Prop := fun _ _ => False
abbrev TS := Ends → St → Hp → Prop

def EP (X : Cx) (pins : List (Addr × Obj)) (σ : St) (Q : VK) (u : Value) (s' : Shared) : Prop := ∃ v H', Inv X pins σ H' s' ∧ RelV v u ∧ Q v H'
def TP (X : Cx) (pins : List (Addr × Obj)) (σ : St) (Q : Bool → Hp → Prop) (b : Bool) (s' : Shared) : Prop := ∃ H', Inv X pins σ H' s' ∧ Q b H'
def AP (X : Cx) (pins : List (Addr × Obj)) (σ : St) (Q : List V → Hp → Prop) (us : List Value) (s' : Shared) : Prop := ∃ vs H', Inv X pins σ H' s' ∧ Vals vs us ∧ Q vs H'
def SP (X : Cx) (pins : List (Addr × Obj)) (D : Ends) (f : Flow) (s' : Shared) : Prop :=
 match f with
 | .next => ∃ σ' H', Inv X pins σ' H' s' ∧ D.nx σ' H'
 | .brk => ∃ σ' H', Inv X pins σ' H' s' ∧ D.bk σ' H'
 | .cont => ∃ σ' H', Inv X pins σ' H' s' ∧ D.ct σ' H'
 | .ret u => ∃ v σ' H', Inv X pins σ' H' s' ∧ RelV v u ∧ D.rt v H'

def PE (X : Cx) (e : Expr) (t : TE) : Prop :=
 ∀ (pins : List (Addr × Obj)) (s : Shared) (σ : St) (H : Hp) (Q : VK), Inv X pins σ H s → t σ H Q → wpAny (model X.prog X.w) X.A (eval e X.env) (EP X pins σ Q) X.xe s
def PT (X : Cx) (e : Expr) (t : TT) : Prop :=
 ∀ (pins : List (Addr × Obj)) (s : Shared) (σ : St) (H : Hp) (Q : Bool → Hp → Prop), Inv X pins σ H s → t σ H Q → wpAny (model X.prog X.w) X.A (isTrue e X.env (eval e X.env)) (TP X pins σ Q) X.xe s
def PW (X : Cx) (e : Expr) (t : TT) : Prop :=
 ∀ (whole : Sem Value) (pins : List (Addr × Obj)) (s : Shared) (σ : St) (H : Hp) (Q : Bool → Hp → Prop), Inv X pins σ H s → t σ H Q → wpAny (model X.prog X.w) X.A (isTrue e X.env whole) (TP X pins σ Q) X.xe s
theorem PW.pt {X : Cx} {e : Expr} {t : TT} (h : PW X e t) : PT X e t := h _
def PA (X : Cx) (es : List Expr) (t : TA) : Prop :=
 ∀ (pos : Pos) (pins : List (Addr × Obj)) (s : Shared) (σ : St) (H : Hp) (Q : List V → Hp → Prop), Inv X pins σ H s → t σ H Q → wpAny (model X.prog X.w) X.A (spliced (backTo pos (starEach es X.env))) (AP X pins σ Q) X.xe s
def PS (X : Cx) (st : Stmt) (t : TS) : Prop :=
 ∀ (pins : List (Addr × Obj)) (s : Shared) (σ : St) (H : Hp) (D : Ends), Inv X pins σ H s → t D σ H → wpAny (model X.prog X.w) X.A (exec st X.env) (SP X pins D) X.xe s
def PSs (X : Cx) (st : List Stmt) (t : TS) : Prop :=
 ∀ (pins : List (Addr × Obj)) (s : Shared) (σ : St) (H : Hp) (D : Ends), Inv X pins σ H s → t D σ H → wpAny (model X.prog X.w) X.A (execs st X.env) (SP X pins D) X.xe s
theorem thn {α : Type} {t : Sem α} {Q Q' : α → Shared → Prop} {M : Model} {A : Around} {E : Value → Shared → Prop} {s : Shared} (h : wpAny M A t Q E s) (hQ : ∀ a s, Q a s → Q' a s) : wpAny M A t Q' E s := wpAny_mono h hQ fun _ _ x => x
end L2

namespace L2
open PySem PySem.Spec PyProof.Rows
section
variable {X : Cx}
def tVar (i : Nat) : TE := fun σ H Q => ∃ v, σ[i]? = some (some v) ∧ Q v H
def tC (v : V) : TE := fun _ H Q => Q v H
theorem pe_var {i : Nat} {x : Str} {pos : Pos} (hN : X.N[i]? = some x) (hv : Vis X.env.scope x) (hd : (x == ("__debug__" : Str)) = false := by decide) (hcd : (x == ("__classdict__" : Str)) = false := by decide) : PE X (.Name x pos) (tVar i) := by
 intro pins s σ H Q I h
 obtain ⟨v, e, h⟩ := h
 obtain ⟨m, hn, hl⟩ := I.loc
 obtain ⟨u, r, l⟩ := hl i x v hN e hv
 have fin : EP X pins σ Q u s := ⟨v, H, I, r, h⟩
 rcases l with ⟨hk, hm⟩ | ⟨hk, c, hc, hcell⟩
 · exact wpAny_Name (wpAny_loadName_local I.ok.kind hk hn hm fin) hd
 · rcases hk with hk | hk
   · exact wpAny_Name (wpAny_loadName_cell I.ok.kind hk hc hcell fin) hd
   · exact wpAny_Name (wpAny_loadName_free I.ok.kind hk hc hcell fin hcd) hd
theorem pe_int {i j pos} : PE X (.Constant (.int i) j pos) (tC (.int i)) := fun _ _ _ H _ I h => wpAny_Constant_int ⟨.int i, H, I.tok _, ⟨_, rfl⟩, h⟩
theorem pe_bl {b j pos} : PE X (.Constant (.bool b) j pos) (tC (.bl b)) := fun _ _ _ H _ I h => Constant_bool ⟨.bl b, H, I, rfl, h⟩
theorem pe_non {j pos} : PE X (.Constant .none j pos) (tC .non) := fun _ _ _ H _ I h => Constant_none ⟨.non, H, I, rfl, h⟩
theorem pe_str {x j pos} : PE X (.Constant (.str x) j pos) (tC (.str x)) := fun _ _ _ H _ I h => Calls.Constant_str ⟨.str x, H, I.tok _, ⟨_, rfl⟩, h⟩
def Gl (X : Cx) (x : Str) : Prop := X.env.kindOf x = some .globalImplicit
theorem ld_glob {E : Value → Shared → Prop} {pins : List (Addr × Obj)} {s : Shared} {σ : St} {H : Hp} {x : Str} {u : Value} {pos : Pos} {Q : Value → Shared → Prop} (I : Inv X pins σ H s) (hg : Gl X x) (hm : X.mg x = some u) (h : Q u s)
   (hd : (x == ("__debug__" : Str)) = false := by decide) : wpAny (model X.prog X.w) X.A (eval (.Name x pos) X.env) Q E s :=
 Calls.Name_function_global I.ok.kind hg (Calls.loadGlobal_global (by rw [I.ok.glob]; exact I.mod.glob.keeps I.bk) hm h) hd
theorem ld_blt {E : Value → Shared → Prop} {pins : List (Addr × Obj)} {s : Shared} {σ : St} {H : Hp} {x : Str} {u : Value} {pos : Pos} {Q : Value → Shared → Prop} (I : Inv X pins σ H s) (hg : Gl X x) (hm : X.mg x = none) (hv : bootBuiltins x = some u) (h : Q u s)
   (hn : x ≠ "__name__" := by decide) (hd : (x == ("__debug__" : Str)) = false := by decide) : wpAny (model X.prog X.w) X.A (eval (.Name x pos) X.env) Q E s := by
 obtain ⟨mb, h1, h2⟩ := I.mod.blt
 exact Calls.Name_function_global I.ok.kind hg (Calls.loadGlobal_builtin (by rw [I.ok.glob]; exact I.mod.glob.keeps I.bk) hm (by rw [I.ok.blt]; exact h1.keeps I.bk) ((h2 x hn).trans hv) h) hd
theorem pe_glob {x : Str} {v : V} {u : Value} {pos : Pos} (hg : Gl X x) (hm : X.mg x = some u) (r : RelV v u) (hd : (x == ("__debug__" : Str)) = false := by decide) : PE X (.Name x pos) (tC v) :=
 fun _ _ _ H _ I h => ld_glob I hg hm ⟨v, H, I, r, h⟩ hd
theorem pe_bltn {x : Str} {v : V} {u : Value} {pos : Pos} (hg : Gl X x) (hm : X.mg x = none) (hv : bootBuiltins x = some u) (r : RelV v u) (hn : x ≠ "__name__" := by decide) (hd : (x == ("__debug__" : Str)) = false := by decide) : PE X (.Name x pos) (tC v) :=
 fun _ _ _ H _ I h => ld_blt I hg hm hv ⟨v, H, I, r, h⟩ hn hd
variable {a b : Expr} {ta tb : TE} {pos : Pos}
def tB (t : TE) : TT := fun σ H Q => t σ H fun x H1 => ∃ c, x = .bl c ∧ Q c H1
theorem pt_val {e : Expr} {t : TE} (h : PE X e t) (he : ∀ whole, isTrue e X.env whole = (do let v ← whole; standAt e.pos; holding [v] (truthy v)) := by intro _; rfl) : PT X e (tB t) := by
 intro pins s σ H Q I hw
 refine isTrue_plain (thn (h pins s σ H _ I hw) fun v s1 ⟨x, H1, I1, r1, q1⟩ => ?_) (he _)
 obtain ⟨d, rfl, q⟩ := q1
 cases r1
 exact wpAny_truthy_bool ⟨H1, I1, q⟩
variable {tA tB' : TT} {rest : List Expr}
def tAnd (t u : TT) : TT := fun σ H Q => t σ H fun c H1 => if c = true then u σ H1 Q else Q false H1
def tOr (t u : TT) : TT := fun σ H Q => t σ H fun c H1 => if c = true then Q true H1 else u σ H1 Q
def tNot (t : TT) : TT := fun σ H Q => t σ H fun c H1 => Q (!c) H1
theorem pw_and1 (ha : PT X a tA) : PW X (.BoolOp .And [a] pos) tA := by
 intro wh pins s σ H Q I h
 refine isTrue_and (thn (ha pins s σ H Q I h) fun c s1 e => ?_)
 cases c with
 | true => exact isTrue_and_nil e
 | false => exact e
theorem pw_or1 (ha : PT X a tA) : PW X (.BoolOp .Or [a] pos) tA := by
 intro wh pins s σ H Q I h
 refine isTrue_or (thn (ha pins s σ H Q I h) fun c s1 e => ?_)
 cases c with
 | false => exact isTrue_or_nil e
 | true => exact e
theorem pw_and (ha : PT X a tA) (hb : PW X (.BoolOp .And (b :: rest) pos) tB') : PW X (.BoolOp .And (a :: b :: rest) pos) (tAnd tA tB') := by
 intro wh pins s σ H Q I h
 refine isTrue_and (thn (ha pins s σ H _ I h) fun c s1 ⟨H1, I1, q1⟩ => ?_)
 cases c with
 | true => exact hb wh pins s1 σ H1 Q I1 q1
 | false => exact ⟨H1, I1, q1⟩
theorem pw_or (ha : PT X a tA) (hb : PW X (.BoolOp .Or (b :: rest) pos) tB') : PW X (.BoolOp .Or (a :: b :: rest) pos) (tOr tA tB') := by
 intro wh pins s σ H Q I h
 refine isTrue_or (thn (ha pins s σ H _ I h) fun c s1 ⟨H1, I1, q1⟩ => ?_)
 cases c with
 | true => exact ⟨H1, I1, q1⟩
 | false => exact hb wh pins s1 σ H1 Q I1 q1
theorem pt_not (ha : PT X a tA) : PT X (.UnaryOp .Not a pos) (tNot tA) := by
 intro pins s σ H Q I h
 exact isTrue_not (ha pins s σ H (fun c H1 => Q (!c) H1) I h)
def tAndV (ta tb : TE) : TE := fun σ H Q => ta σ H fun x H1 => ∃ c, x = .bl c ∧ if c = true then tb σ H1 Q else Q (.bl false) H1
def tOrV (ta tb : TE) : TE := fun σ H Q => ta σ H fun x H1 => ∃ c, x = .bl c ∧ if c = true then Q (.bl true) H1 else tb σ H1 Q
def tNotV (ta : TE) : TE := fun σ H Q => ta σ H fun x H1 => ∃ c, x = .bl c ∧ Q (.bl (!c)) H1
theorem pe_one {op} {t : TE} (h : PE X a t) : PE X (.BoolOp op [a] pos) t := fun pins s σ H Q I hw => BoolOp_one (h pins s σ H Q I hw)
theorem pe_and (ha : PE X a ta) (hb : PE X (.BoolOp .And (b :: rest) pos) tb) : PE X (.BoolOp .And (a :: b :: rest) pos) (tAndV ta tb) := by
 intro pins s σ H Q I h
 refine BoolOp_and (thn (ha pins s σ H _ I h) fun v s1 ⟨x, H1, I1, r1, q1⟩ => ?_)
 obtain ⟨c, rfl, q1⟩ := q1
 cases r1
 refine wpAny_truthy_bool ?_
 cases c with
 | true => exact hb pins s1 σ H1 Q I1 q1
 | false => exact ⟨.bl false, H1, I1, rfl, q1⟩
theorem pe_or (ha : PE X a ta) (hb : PE X (.BoolOp .Or (b :: rest) pos) tb) : PE X (.BoolOp .Or (a :: b :: rest) pos) (tOrV ta tb) := by
 intro pins s σ H Q I h
 refine BoolOp_or (thn (ha pins s σ H _ I h) fun v s1 ⟨x, H1, I1, r1, q1⟩ => ?_)
 obtain ⟨c, rfl, q1⟩ := q1
 cases r1
 refine wpAny_truthy_bool ?_
 cases c with
 | false => exact hb pins s1 σ H1 Q I1 q1
 | true => exact ⟨.bl true, H1, I1, rfl, q1⟩
theorem pe_not (ha : PE X a ta) : PE X (.UnaryOp .Not a pos) (tNotV ta) := by
 intro pins s σ H Q I h
 refine UnaryOp_ (thn (ha pins s σ H _ I h) fun v s1 ⟨x, H1, I1, r1, q1⟩ => ?_)
 obtain ⟨c, rfl, q1⟩ := q1
 cases r1
 exact not_of (wpAny_truthy_bool ⟨.bl (!c), H1, I1, rfl, q1⟩)
def tIf (t : TT) (ta tb : TE) : TE := fun σ H Q => t σ H fun c H1 => if c = true then ta σ H1 Q else tb σ H1 Q
theorem pe_ifExp {c : Expr} (hc : PT X c tA) (ha : PE X a ta) (hb : PE X b tb) : PE X (.IfExp c a b pos) (tIf tA ta tb) := by
 intro pins s σ H Q I h
 refine wpAny_IfExp (thn (hc pins s σ H _ I h) fun d s1 ⟨H1, I1, q1⟩ => ?_)
 cases d with
 | true => exact ha pins s1 σ H1 Q I1 q1
 | false => exact hb pins s1 σ H1 Q I1 q1
end
end L2

namespace L2
open PySem PySem.Spec PyProof.Rows
def SqL (K : PySem.W.Frag) (H : Hp) (a : Addr) (xs : List V) : Prop :=
 Rd H a (.lst xs) ∨
   ∃ (o : Obj) (its : Array Value) (n : Nat), K.lookup a = some o ∧ o.cls = .type "list" ∧ o.dict = none ∧ o.data = .seq its n ∧ its.size ≤ sizeLine ∧ Vals xs its.toList
def SqT (K : PySem.W.Frag) (H : Hp) (a : Addr) (xs : List V) : Prop :=
 Rd H a (.tup xs) ∨
   ∃ (o : Obj) (its : Array Value) (n : Nat), K.lookup a = some o ∧ o.cls = .type "tuple" ∧ o.data = .seq its n ∧ its.size ≤ sizeLine ∧ Vals xs its.toList
def absV : Value → Option V
 | .none => some .non
 | .bool b => some (.bl b)
 | .int i _ => some (.int i)
 | .str x _ => some (.str x)
 | .bytes b _ => some (.byt b)
 | .float b _ => some (.flt b)
 | .ref a => some (.ref a)
 | .type n => some (.ty n)
 | _ => none
theorem RelV.abs {x : V} {u : Value} (r : RelV x u) : absV u = some x := by
 cases x with
 | non => cases r; rfl
 | bl _ => cases r; rfl
 | int _ => obtain ⟨t, rfl⟩ := r; rfl
 | str _ => obtain ⟨t, rfl⟩ := r; rfl
 | byt _ => obtain ⟨t, rfl⟩ := r; rfl
 | flt _ => obtain ⟨t, rfl⟩ := r; rfl
 | ref _ => cases r; rfl
 | ty _ => cases r; rfl
theorem RelV.inj {x y : V} {u : Value} (r : RelV x u) (q : RelV y u) : x = y := Option.some.inj (r.abs.symm.trans q.abs)
theorem Vals.inj : ∀ {xs ys : List V} {us : List Value}, Vals xs us → Vals ys us → xs = ys
 | _, _, _, .nil, .nil => rfl
 | _, _, _, .cons r t, .cons r' t' => by rw [r.inj r', Vals.inj t t']
section
variable {X : Cx} {pins : List (Addr × Obj)} {σ : St} {H : Hp} {s : Shared} {a : Addr} {xs ys : List V}
theorem SqL.of {K : PySem.W.Frag} (h : H a = some (.lst xs)) : SqL K H a xs := .inl (.inl h)
theorem SqT.of {K : PySem.W.Frag} (h : H a = some (.tup xs)) : SqT K H a xs := .inl (.inl h)
theorem Inv.list (I : Inv X pins σ H s) (h : SqL X.K H a xs) : ∃ its : List Value, Vals xs its ∧ PlainL s.heap a its.toArray ∧ xs.length ≤ sizeLine := by
 rcases h with h | ⟨o, its, n, hk, hc, hd, hs, hz, r⟩
 · obtain ⟨z, its, n, r, e⟩ := h.ok I.hok
   exact ⟨its, r, ⟨_, n, e, rfl, rfl, rfl⟩, z⟩
 · refine ⟨its.toList, r, ⟨o, n, I.kIn a o hk, hc, hd, by simpa using hs⟩, ?_⟩
   have e := r.length
   simp only [Array.length_toList] at e
   omega
theorem Inv.tuple (I : Inv X pins σ H s) (h : SqT X.K H a xs) : ∃ its : List Value, Vals xs its ∧ IsTup s.heap a its.toArray ∧ xs.length ≤ sizeLine := by
 rcases h with h | ⟨o, its, n, hk, hc, hs, hz, r⟩
 · obtain ⟨z, its, r, p⟩ := h.ok I.hok
   exact ⟨its, r, p, z⟩
 · refine ⟨its.toList, r, ⟨o, I.kIn a o hk, hc, n, by simpa using hs⟩, ?_⟩
   have e := r.length
   simp only [Array.length_toList] at e
   omega
theorem Inv.list_inj (I : Inv X pins σ H s) (h : SqL X.K H a xs) (h' : SqL X.K H a ys) : xs = ys := by
 obtain ⟨its, r, ⟨o, n, e, _, _, d⟩, _⟩ := I.list h
 obtain ⟨its', r', ⟨o', n', e', _, _, d'⟩, _⟩ := I.list h'
 rw [e] at e'; cases e'
 rw [d] at d'
 injection d' with d1 _
 have : its = its' := by simpa using congrArg Array.toList d1
 subst this
 exact r.inj r'
theorem Inv.tuple_inj (I : Inv X pins σ H s) (h : SqT X.K H a xs) (h' : SqT X.K H a ys) : xs = ys := by
 obtain ⟨its, r, ⟨o, e, _, n, d⟩, _⟩ := I.tuple h
 obtain ⟨its', r', ⟨o', e', _, n', d'⟩, _⟩ := I.tuple h'
 rw [e] at e'; cases e'
 rw [d] at d'
 injection d' with d1 _
 have : its = its' := by simpa using congrArg Array.toList d1
 subst this
 exact r.inj r'
end
abbrev Cx.wish (X : Cx) (E : Value → Shared → Prop) : Cx := { X with xe := E }
abbrev Cx.nox (X : Cx) : Cx := X.wish fun _ _ => False
theorem Cx.Ok.wish {X : Cx} (ok : X.Ok) (E : Value → Shared → Prop) : (X.wish E).Ok :=
 ⟨ok.mod, ok.kind, ok.glob, ok.blt, ok.above, ok.inj, ok.has, ok.cab, ok.hd, ok.frames, ok.stk, ok.exf, ok.bs, ok.bsz, ok.noex, ok.exfs, ok.funs, ok.frf⟩
theorem Cx.Ok.unwish {X : Cx} {E : Value → Shared → Prop} (ok : (X.wish E).Ok) : X.Ok :=
 ⟨ok.mod, ok.kind, ok.glob, ok.blt, ok.above, ok.inj, ok.has, ok.cab, ok.hd, ok.frames, ok.stk, ok.exf, ok.bs, ok.bsz, ok.noex, ok.exfs, ok.funs, ok.frf⟩
section
variable {X : Cx} {pins : List (Addr × Obj)} {σ : St} {H : Hp} {s : Shared} {E : Value → Shared → Prop}
theorem Inv.wish (I : Inv X pins σ H s) (E : Value → Shared → Prop) : Inv (X.wish E) pins σ H s := ⟨I.ok.wish E, I.os, I.bare, I.base, I.loc, I.cell, I.free, I.freeC, I.pin, I.hok, I.len⟩
theorem Inv.unwish (I : Inv (X.wish E) pins σ H s) : Inv X pins σ H s := ⟨I.ok.unwish, I.os, I.bare, I.base, I.loc, I.cell, I.free, I.freeC, I.pin, I.hok, I.len⟩
theorem SP.unwish {D : Ends} {f : Flow} {s' : Shared} (h : SP (X.wish E) pins D f s') : SP X pins D f s' := by
 cases f with
 | next => obtain ⟨σ', H', I, q⟩ := h; exact ⟨σ', H', I.unwish, q⟩
 | brk => obtain ⟨σ', H', I, q⟩ := h; exact ⟨σ', H', I.unwish, q⟩
 | cont => obtain ⟨σ', H', I, q⟩ := h; exact ⟨σ', H', I.unwish, q⟩
 | ret u => obtain ⟨v, σ', H', I, r, q⟩ := h; exact ⟨v, σ', H', I.unwish, r, q⟩
theorem PE.nox {e : Expr} {t : TE} (h : PE X.nox e t) : PE X e t := fun pins s σ H Q I hw =>
 wpAny_mono (h pins s σ H Q (I.wish _) hw) (fun _ _ ⟨v, H', I', r, q⟩ => ⟨v, H', I'.unwish, r, q⟩) fun _ _ z => False.elim z
theorem PT.nox {e : Expr} {t : TT} (h : PT X.nox e t) : PT X e t := fun pins s σ H Q I hw =>
 wpAny_mono (h pins s σ H Q (I.wish _) hw) (fun _ _ ⟨H', I', q⟩ => ⟨H', I'.unwish, q⟩) fun _ _ z => False.elim z
theorem PSs.nox {st : List Stmt} {t : TS} (h : PSs X.nox st t) : PSs X st t := fun pins s σ H D I hw =>
 wpAny_mono (h pins s σ H D (I.wish _) hw) (fun _ _ q => q.unwish) fun _ _ z => False.elim z
end
section
variable {X : Cx} {st : Stmt} {rest : List Stmt} {t u : TS} {e : Expr} {te : TE} {pos : Pos}
def tNext : TS := fun D σ H => D.nx σ H
def tSeq (t u : TS) : TS := fun D σ H => t { D with nx := u D } σ H
theorem pss_nil : PSs X [] tNext := fun _ _ σ H _ I h => wpAny_execs_nil ⟨σ, H, I, h⟩
theorem pss_cons (h1 : PS X st t) (h2 : PSs X rest u) : PSs X (st :: rest) (tSeq t u) := by
 intro pins s σ H D I h
 refine wpAny_execs_cons (thn (h1 pins s σ H { D with nx := u D } I h) fun f s1 q => ?_)
 cases f with
 | next =>
   obtain ⟨σ', H', I', q⟩ := q
   exact h2 pins s1 σ' H' D I' q
 | ret v => exact q
 | brk => exact q
 | cont => exact q
theorem pss_one (h1 : PS X st t) : PSs X [st] t := by
 intro pins s σ H D I h
 refine wpAny_execs_cons (thn (h1 pins s σ H D I h) fun f s1 q => ?_)
 cases f with
 | next => exact wpAny_execs_nil q
 | ret v => exact q
 | brk => exact q
 | cont => exact q
theorem Inv.quiet {pins : List (Addr × Obj)} {σ : St} {H : Hp} {s : Shared} (I : Inv X pins σ H s) : interactive X.env = false := by simp [interactive, I.ok.kind]
def tDrop (te : TE) : TS := fun D σ H => te σ H fun _ H1 => D.nx σ H1
theorem ps_expr (he : PE X e te) (hs : swapsWith e none pos.line X.env = pure false := by rfl) : PS X (.Expr e pos) (tDrop te) := by
 intro pins s σ H D I h
 exact wpAny_Expr_any (thn (he pins s σ H _ I h) fun v s1 ⟨x, H1, I1, r1, q1⟩ => ⟨σ, H1, I1, q1⟩) I.quiet hs
def tRet (te : TE) : TS := fun D σ H => te σ H D.rt
theorem ps_ret (he : PE X e te) : PS X (.Return (some e) pos) (tRet te) := by
 intro pins s σ H D I h
 exact wpAny_Return_some (thn (he pins s σ H _ I h) fun v s1 ⟨x, H1, I1, r1, q1⟩ => ⟨x, σ, H1, I1, r1, q1⟩)
def tIfS (c : TT) (t u : TS) : TS := fun D σ H => c σ H fun b H1 => if b = true then t D σ H1 else u D σ H1
theorem ps_if {c : Expr} {a b : List Stmt} {tc : TT} (hc : PT X c tc) (ha : PSs X a t) (hb : PSs X b u) : PS X (.If c a b pos) (tIfS tc t u) := by
 intro pins s σ H D I h
 refine wpAny_If (thn (hc pins s σ H _ I h) fun d s1 ⟨H1, I1, q1⟩ => ?_)
 cases d with
 | true => exact ha pins s1 σ H1 D I1 q1
 | false => exact hb pins s1 σ H1 D I1 q1
def tNever : TS := fun _ _ _ => False
theorem ps_never : PS X st tNever := fun _ _ _ _ _ _ h => h.elim
end
abbrev TG := V → St → Hp → (St → Hp → Prop) → Prop
abbrev TGs := List V → St → Hp → (St → Hp → Prop) → Prop
def PG (X : Cx) (target : Expr) (t : TG) : Prop :=
 ∀ (pins : List (Addr × Obj)) (s : Shared) (σ : St) (H : Hp) (v : V) (u : Value) (Q : St → Hp → Prop), Inv X pins σ H s → RelV v u → t v σ H Q →
   wpAny (model X.prog X.w) X.A (assign target X.env u) (fun _ s' => ∃ σ' H', Inv X pins σ' H' s' ∧ Q σ' H') X.xe s
def PGs (X : Cx) (ts : List Expr) (t : TGs) : Prop :=
 ∀ (pins : List (Addr × Obj)) (s : Shared) (σ : St) (H : Hp) (vs : List V) (us : List Value) (Q : St → Hp → Prop), Inv X pins σ H s → Vals vs us → t vs σ H Q →
   wpAny (model X.prog X.w) X.A (assignInOrder ((assignEach ts X.env).map (·.2)) us) (fun _ s' => ∃ σ' H', Inv X pins σ' H' s' ∧ Q σ' H') X.xe s
abbrev TSet := V → V → V → Hp → (Hp → Prop) → Prop
def PSet (X : Cx) (t : TSet) : Prop :=
 ∀ (pins : List (Addr × Obj)) (s : Shared) (σ : St) (H : Hp) (o i v : V) (ov iv u : Value) (Q : Hp → Prop), Inv X pins σ H s → RelV o ov → RelV i iv → RelV v u → t o i v H Q →
   wpAny (model X.prog X.w) X.A (setItem ov iv u) (fun _ s' => ∃ H', Inv X pins σ H' s' ∧ Q H') X.xe s
section
variable {X : Cx} {pos : Pos}
def gName (i : Nat) : TG := fun v σ H Q => Q (σ.set i (some v)) H
theorem pg_name {i : Nat} {x : Str} (hN : X.N.Nodup) (hi : X.N[i]? = some x) (hx : Loc X.env.scope x) (hf : X.fn x = true ∨ X.env.scope.names.lookup x = some .local := by first | exact .inl rfl | exact .inr rfl | assumption) : PG X (.Name x pos) (gName i) := by
 intro pins s σ H v u Q I r h
 exact wpAny_assign_Name (store_ok I hN hi hx r (fun s' I' => ⟨_, H, I', h⟩) hf)
def gNil : TGs := fun vs σ H Q => vs = [] ∧ Q σ H
def gCons (t : TG) (u : TGs) : TGs := fun vs σ H Q => ∃ v r, vs = v :: r ∧ t v σ H fun σ' H' => u r σ' H' Q
theorem pgs_nil : PGs X [] gNil := by
 intro pins s σ H vs us Q I r h
 obtain ⟨e, h⟩ := h
 subst e
 cases r
 exact assignInOrder_nil ⟨σ, H, I, h⟩
theorem pgs_cons {e : Expr} {es : List Expr} {t : TG} {u : TGs} (h1 : PG X e t) (h2 : PGs X es u)
   (hs : (assignEach (e :: es) X.env).map (·.2) = assign e X.env :: (assignEach es X.env).map (·.2) := by rfl) : PGs X (e :: es) (gCons t u) := by
 intro pins s σ H vs us Q I r h
 obtain ⟨v, vr, e1, h⟩ := h
 subst e1
 cases r with
 | cons r rr =>
   rw [hs]
   refine assignInOrder_cons (thn (h1 pins s σ H _ _ _ I r h) fun _ s1 ⟨σ1, H1, I1, q1⟩ => ?_)
   exact h2 pins s1 σ1 H1 _ _ Q I1 rr q1
def gTup (K : PySem.W.Frag) (n : Nat) (t : TGs) : TG := fun v σ H Q => ∃ a xs, v = .ref a ∧ SqT K H a xs ∧ xs.length = n ∧ t xs σ H Q
theorem pg_tup {es : List Expr} {k : Nat} {t : TGs} {n : Nat} (hc : X.calm = true) (h : PGs X es t)
   (hn : (assignEach es X.env).length = n := by rfl) (hst : (assignEach es X.env).findIdx? (·.1) = none := by rfl) : PG X (.Tuple es k pos) (gTup X.K n t) := by
 intro pins s σ H v u Q I r hw
 obtain ⟨a, xs, e1, hq, hl, hw⟩ := hw
 subst e1
 cases r
 obtain ⟨its, rv, ht, hz⟩ := I.tuple hq
 refine assign_Tuple_tuple (I.ok.hd hc) ht (by simp [hn, ← hl, rv.length]) hst fun h' hx => ?_
 have I1 : Inv X pins σ H { s with heap := h' } := I.kept (t' := s.toks) fun b o e => hx b o (Nat.ne_of_lt (Heap.lt_size e)) e
 exact h pins _ σ H xs _ Q I1 (by simpa using rv) hw
def gSub (to ti : TE) (t : TSet) : TG := fun v σ H Q => to σ H fun o H1 => ti σ H1 fun i H2 => t o i v H2 fun H3 => Q σ H3
theorem pg_sub {o i : Expr} {to ti : TE} {t : TSet} (ho : PE X o to) (hi : PE X i ti) (hs : PSet X t)
   (ha : ∀ v, assign (.Subscript o i pos) X.env v = (do
     let ov ← holding [v] (eval o X.env)
     let iv ← holding [v, ov] (eval i X.env)
     standAt pos
     holding [v, ov, iv] (setItem ov iv v)
     release [v, ov, iv] []) := by intro _; rfl) : PG X (.Subscript o i pos) (gSub to ti t) := by
 intro pins s σ H v u Q I r h
 rw [ha]
 refine wpAny_bind (wpAny_holding (thn (ho pins s σ H _ I h) fun ov s1 ⟨x, H1, I1, r1, q1⟩ => ?_))
 refine wpAny_bind (wpAny_holding (thn (hi pins s1 σ H1 _ I1 q1) fun iv s2 ⟨y, H2, I2, r2, q2⟩ => ?_))
 refine wpAny_bind (wpAny_standAt (wpAny_bind (wpAny_holding (thn (hs pins s2 σ H2 x y v ov iv u _ I2 r1 r2 r q2) fun _ s3 ⟨H3, I3, q3⟩ => ?_))))
 exact wpAny_release ⟨σ, H3, I3, q3⟩
def tAsg (te : TE) (g : TG) : TS := fun D σ H => te σ H fun x H1 => g x σ H1 D.nx
theorem ps_asg {tg e : Expr} {te : TE} {g : TG} (he : PE X e te) (hg : PG X tg g) (hs : swapsWithSole [tg] e pos.line X.env = pure false := by rfl) (hw : swappedStores [tg] e X.env = pure none := by rfl)
   (h1 : (assignEach [tg] X.env).map (·.2) = [assign tg X.env] := by rfl) : PS X (.Assign [tg] e pos) (tAsg te g) := by
 intro pins s σ H D I h
 refine wpAny_Assign_stores (thn (he pins s σ H _ I h) fun v s1 ⟨x, H1, I1, r1, q1⟩ => ?_) hs hw
 rw [h1]
 exact thn (hg pins s1 σ H1 x v _ I1 r1 q1) fun _ s2 q => q
theorem ps_set {i : Nat} {x : Str} {e : Expr} {te : TE} {pos' : Pos} (hN : X.N.Nodup) (hi : X.N[i]? = some x) (hx : Loc X.env.scope x) (he : PE X e te) (hs : swapsWith e (some (.Name x pos')) pos.line X.env = pure false := by rfl) (hf : X.fn x = true ∨ X.env.scope.names.lookup x = some .local := by first | exact .inl rfl | exact .inr rfl | assumption) :
   PS X (.Assign [.Name x pos'] e pos) (tAsg te (gName i)) := by
 intro pins s σ H D I h
 refine wpAny_Assign_Name (thn (he pins s σ H _ I h) fun v s1 ⟨y, H1, I1, r1, q1⟩ => ?_) hs
 exact store_ok I1 hN hi hx r1 (fun s2 I2 => ⟨_, H1, I2, q1⟩) hf
end
section
variable {X : Cx} {pos : Pos}
end
structure It where
 go : Nat → Hp → Prop
 yld : Nat → Hp → V → Hp → Prop
 stop : Nat → Hp → Prop
def FpOk (X : Cx) (pins : List (Addr × Obj)) (H : Hp) (b : Addr) : Prop :=
 H b = none ∧ b ≠ X.env.locals ∧ b ∉ X.fs ∧ (b ∈ X.ex ∨ X.s₀.heap.objs.size ≤ b) ∧ (∀ x c, X.env.cells.lookup x = some c → c ≠ b) ∧ ∀ p ∈ X.pn ++ pins, p.1 ≠ b
theorem Inv.fpOk {X : Cx} {pins : List (Addr × Obj)} {σ : St} {H H' : Hp} {s : Shared} {b : Addr} (I : Inv X pins σ H s) (hb : s.heap.objs.size ≤ b) (hn : H' b = none) : FpOk X pins H' b := by
 refine ⟨hn, Nat.ne_of_gt (Nat.lt_of_lt_of_le I.lt hb), I.nofs hb, .inr (Nat.le_trans I.sz hb), fun x c e z => ?_, fun p hp z => ?_⟩
 · obtain ⟨v, q⟩ := I.cell x c e
   exact absurd (Nat.lt_of_lt_of_le q.lt (by rw [z]; exact hb)) (Nat.lt_irrefl _)
 · exact absurd (Nat.lt_of_lt_of_le (Heap.lt_size (I.pin p hp).1) (by rw [z]; exact hb)) (Nat.lt_irrefl _)
structure Turn (P : Program) (w : World) (K : PySem.W.Frag) (tg : Expr) (J : It) (fp : List Addr) (it : Addr) (tn : Nat → Heap → Prop) : Prop where
 mem : it ∈ fp
 obj : ∀ i h, tn i h → ∀ b ∈ fp, ∃ o, h.get? b = some o ∧ ∀ v, o.data ≠ .cell v
 keep : ∀ i h h', tn i h → (∀ b ∈ fp, ∀ o, h.get? b = some o → h'.get? b = some o) → tn i h'
 item : ∀ (X : Cx), X.prog = P → X.w = w → X.K = K → X.calm = true → ∀ (i : Nat) (pins : List (Addr × Obj)) (s : Shared) (σ : St) (H : Hp) (E : Value → Shared → Prop), Inv X pins σ H s → (∀ b ∈ fp, FpOk X pins H b) → tn i s.heap → J.go i H →
   wpAny (model P w) X.A (pyNext (.ref it)) (fun r s1 => ∃ u, r = some u ∧
     wpAny (model P w) X.A (letOwnedTupleGo tg (.ref it) u) (fun _ s2 => ∃ x H', Inv X pins σ H' s2 ∧ RelV x u ∧ J.yld i H x H' ∧ tn (i + 1) s2.heap ∧ ∀ b ∈ fp, H' b = none) E s1) E s
 done : ∀ (X : Cx), X.prog = P → X.w = w → X.K = K → X.calm = true → ∀ (i : Nat) (pins : List (Addr × Obj)) (s : Shared) (σ : St) (H : Hp) (E : Value → Shared → Prop), Inv X pins σ H s → (∀ b ∈ fp, FpOk X pins H b) → tn i s.heap → J.stop i H →
   wpAny (model P w) X.A (pyNext (.ref it)) (fun r s1 => r = none ∧ Inv X pins σ H s1) E s
 self : ∀ (A : Around) (i : Nat) (s : Shared) (Q : Value → Shared → Prop) (E : Value → Shared → Prop), tn i s.heap → Q (.ref it) s → wpAny (model P w) A (pyIter (.ref it)) Q E s
abbrev TI := St → Hp → (It → Hp → Prop) → Prop
def PIE (X : Cx) (pins : List (Addr × Obj)) (σ : St) (tg : Expr) (R : It → Hp → Prop) (itv : Value) (s2 : Shared) : Prop :=
 ∃ (it : Addr) (fp : List Addr) (tn : Nat → Heap → Prop) (J : It) (H' : Hp), itv = .ref it ∧ Inv X pins σ H' s2 ∧ Turn X.prog X.w X.K tg J fp it tn ∧ tn 0 s2.heap ∧ (∀ b ∈ fp, FpOk X pins H' b) ∧ R J H'
def PI (X : Cx) (tg iter : Expr) (wi : TI) : Prop :=
 ∀ (pins : List (Addr × Obj)) (s : Shared) (σ : St) (H : Hp) (R : It → Hp → Prop), Inv X pins σ H s → wi σ H R →
   wpAny (model X.prog X.w) X.A (eval iter X.env) (fun v s1 => wpAny (model X.prog X.w) X.A (pyIter v) (PIE X pins σ tg R) X.xe s1) X.xe s
theorem go_of {M : Model} {A : Around} {E : Value → Shared → Prop} {s : Shared} {tg : Expr} {it : Addr} {u : Value} {o : Obj} {n : String} {vs : Array Value} {Q : Unit → Shared → Prop} (ho : s.heap.get? it = some o) (hc : o.cls = .type n) (hd : o.data = .fields vs)
   (hn : ["enumerate", "zip", "dict_itemiterator", "dict_reverseitemiterator", "odict_iterator", "itertools.zip_longest", "itertools.pairwise"].contains n = false) (hQ : Q () s) : wpAny M A (letOwnedTupleGo tg (.ref it) u) Q E s := by
 unfold letOwnedTupleGo
 cases tg <;> first
   | exact wpAny_pure hQ
   | (cases u <;> first
       | exact wpAny_pure hQ
       | (refine wpAny_bind (wpAny_load ho ?_)
          rw [hc, hd]
          show wpAny M A (if (["enumerate", "zip", "dict_itemiterator", "dict_reverseitemiterator", "odict_iterator", "itertools.zip_longest", "itertools.pairwise"].contains n && vs[0]? == some (rawInt _)) = true then _ else _) Q E s
          rw [if_neg (by intro h; rw [hn, Bool.false_and] at h; cases h)]
          exact wpAny_pure hQ))
def Itl (K : PySem.W.Frag) (a : Addr) : It :=
 ⟨fun i H => ∃ xs x, SqL K H a xs ∧ xs[i]? = some x, fun i H x H' => H' = H ∧ ∀ xs, SqL K H a xs → xs[i]? = some x, fun i H => ∃ xs, SqL K H a xs ∧ xs.length ≤ i⟩
def Itt (K : PySem.W.Frag) (a : Addr) : It :=
 ⟨fun i H => ∃ xs x, SqT K H a xs ∧ xs[i]? = some x, fun i H x H' => H' = H ∧ ∀ xs, SqT K H a xs → xs[i]? = some x, fun i H => ∃ xs, SqT K H a xs ∧ xs.length ≤ i⟩
def Itr (lo : Int) (n : Nat) : It := ⟨fun i _ => i < n, fun i H x H' => H' = H ∧ x = .int (lo + i), fun i _ => n ≤ i⟩
theorem turn_list {P : Program} {w : World} {K : PySem.W.Frag} {tg : Expr} (a it : Addr) : Turn P w K tg (Itl K a) [it] it (fun i h => h.IsListIter it a i) where
 mem := by simp
 obj := fun i h st b hb => by
   have e : b = it := by simpa using hb
   subst e
   obtain ⟨o, e, c, d⟩ := st
   exact ⟨o, e, fun v z => by rw [d] at z; cases z⟩
 keep := fun i h h' st k => st.at fun o e => k it (by simp) o e
 item := by
   intro X hP hw hK hc i pins s σ H E I hf st hg
   subst hP hw hK
   obtain ⟨xs, x, hq, hx⟩ := hg
   obtain ⟨its, rv, p, hz⟩ := I.list hq
   obtain ⟨u, hu, ru⟩ := rv.get hx
   obtain ⟨f0, f1, f2, f3, f4, f5⟩ := hf it (by simp)
   refine wpAny_pyNext_list_item st p.isList (x := u) (by simpa using hu) fun h' st' sb => ?_
   have I1 : Inv X pins σ H { s with heap := h' } := I.turned (t' := s.toks) (fun b o hb e => (sb.2 b hb).trans e) f0 f1 f3 f4 f5
   obtain ⟨o, e, c, d⟩ := id st'
   exact ⟨u, rfl, go_of (s := { s with heap := h' }) e c d (by decide) ⟨x, H, I1, ru, ⟨rfl, fun ys hy => by rw [I.list_inj hy hq]; exact hx⟩, st', fun b hb => (hf b hb).1⟩⟩
 done := by
   intro X hP hw hK hc i pins s σ H E I hf st hg
   subst hP hw hK
   obtain ⟨xs, hq, hx⟩ := hg
   obtain ⟨its, rv, p, hz⟩ := I.list hq
   obtain ⟨f0, f1, f2, f3, f4, f5⟩ := hf it (by simp)
   have hl := rv.length
   exact wpAny_pyNext_list_end (I.ok.hd hc) st p.isList (by simp; omega) fun h' eb => ⟨rfl, I.turned (t' := s.toks) (fun b o hb e => eb b o hb e) f0 f1 f3 f4 f5⟩
 self := fun _ _ _ _ _ st h => wpAny_pyIter_listiter st h
theorem turn_tuple {P : Program} {w : World} {K : PySem.W.Frag} {tg : Expr} (a it : Addr) : Turn P w K tg (Itt K a) [it] it (fun i h => h.IsTupleIter it a i) where
 mem := by simp
 obj := fun i h st b hb => by
   have e : b = it := by simpa using hb
   subst e
   obtain ⟨o, e, c, d⟩ := st
   exact ⟨o, e, fun v z => by rw [d] at z; cases z⟩
 keep := fun i h h' st k => st.at fun o e => k it (by simp) o e
 item := by
   intro X hP hw hK hc i pins s σ H E I hf st hg
   subst hP hw hK
   obtain ⟨xs, x, hq, hx⟩ := hg
   obtain ⟨its, rv, p, hz⟩ := I.tuple hq
   obtain ⟨u, hu, ru⟩ := rv.get hx
   obtain ⟨f0, f1, f2, f3, f4, f5⟩ := hf it (by simp)
   refine wpAny_pyNext_tuple_item st (show s.heap.IsTuple a its.toArray from p) (x := u) (by simpa using hu) fun h' st' sb => ?_
   have I1 : Inv X pins σ H { s with heap := h' } := I.turned (t' := s.toks) (fun b o hb e => (sb.2 b hb).trans e) f0 f1 f3 f4 f5
   obtain ⟨o, e, c, d⟩ := id st'
   exact ⟨u, rfl, go_of (s := { s with heap := h' }) e c d (by decide) ⟨x, H, I1, ru, ⟨rfl, fun ys hy => by rw [I.tuple_inj hy hq]; exact hx⟩, st', fun b hb => (hf b hb).1⟩⟩
 done := by
   intro X hP hw hK hc i pins s σ H E I hf st hg
   subst hP hw hK
   obtain ⟨xs, hq, hx⟩ := hg
   obtain ⟨its, rv, p, hz⟩ := I.tuple hq
   obtain ⟨f0, f1, f2, f3, f4, f5⟩ := hf it (by simp)
   have hl := rv.length
   exact wpAny_pyNext_tuple_end (I.ok.hd hc) st (show s.heap.IsTuple a its.toArray from p) (by simp; omega) fun h' eb => ⟨rfl, I.turned (t' := s.toks) (fun b o hb e => eb b o hb e) f0 f1 f3 f4 f5⟩
 self := fun _ _ _ _ _ st h => wpAny_pyIter_tupleiter st h
theorem turn_range {P : Program} {w : World} {K : PySem.W.Frag} {tg : Expr} (it : Addr) (lo : Int) (n : Nat) : Turn P w K tg (Itr lo n) [it] it (fun i h => IsRangeIter h it (lo + (i : Nat) * 1) ((n : Int) - (i : Nat)) 1) where
 mem := by simp
 obj := fun i h st b hb => by
   have e : b = it := by simpa using hb
   subst e
   exact ⟨_, st, fun v z => by
     have z' : Data.fields _ = Data.cell v := z
     cases z'⟩
 keep := fun i h h' st k => k it (by simp) _ st
 item := by
   intro X hP hw hK hc i pins s σ H E I hf st hg
   subst hP hw hK
   obtain ⟨f0, f1, f2, f3, f4, f5⟩ := hf it (by simp)
   have W := Walks.range (prog := X.prog) (w := X.w) (I.ok.hd hc) it lo 1 n
   refine W.item i s _ _ hg st fun v h' tk hv st' kk => ?_
   obtain ⟨t, rfl⟩ := hv
   have I1 : Inv X pins σ H { s with heap := h', toks := tk } := I.turned (fun b o hb e => kk b o (by simpa using hb) e) f0 f1 f3 f4 f5
   refine ⟨_, rfl, go_of (s := { s with heap := h', toks := tk }) (n := "range_iterator") st' rfl rfl (by decide) ⟨.int (lo + i), H, I1, ⟨t, ?_⟩, ⟨rfl, rfl⟩, st', fun b hb => (hf b hb).1⟩⟩
   rw [Int.mul_one]
 done := by
   intro X hP hw hK hc i pins s σ H E I hf st hg
   subst hP hw hK
   obtain ⟨f0, f1, f2, f3, f4, f5⟩ := hf it (by simp)
   exact wpAny_pyNext_range_end (I.ok.hd hc) st (by have : n ≤ i := hg; omega) fun h' eb => ⟨rfl, I.turned (t' := s.toks) (fun b o hb e => eb b o hb e) f0 f1 f3 f4 f5⟩
 self := fun _ _ _ _ _ st h => wpAny_pyIter_rangeiter st h
end L2

namespace L2
open PySem PySem.Spec PyProof.Rows
section
variable {X : Cx} {tg : Expr}
def iList (K : PySem.W.Frag) (tl : TE) : TI := fun σ H R => tl σ H fun x H1 => ∃ a, x = .ref a ∧ (∃ xs, SqL K H1 a xs) ∧ R (Itl K a) H1
def iTup (K : PySem.W.Frag) (tl : TE) : TI := fun σ H R => tl σ H fun x H1 => ∃ a, x = .ref a ∧ (∃ xs, SqT K H1 a xs) ∧ R (Itt K a) H1
theorem pi_list {l : Expr} {tl : TE} (hl : PE X l tl) : PI X tg l (iList X.K tl) := by
 intro pins s σ H R I h
 refine thn (hl pins s σ H _ I h) fun v s1 ⟨x, H1, I1, r1, q1⟩ => ?_
 obtain ⟨a, e, ⟨xs, hq⟩, q⟩ := q1
 subst e
 cases r1
 obtain ⟨its, rv, p, hz⟩ := I1.list hq
 refine wpAny_pyIter_list p.isList ?_
 refine ⟨s1.heap.objs.size, [s1.heap.objs.size], _, _, H1, rfl, I1.kept (t' := s1.toks) fun b o e => Heap.get?_push_of_some _ e, turn_list a _, ⟨_, Heap.get?_push_size _ rfl, rfl, rfl⟩, fun b hb => ?_, q⟩
 have e : b = s1.heap.objs.size := by simpa using hb
 subst e
 exact I1.fpOk (Nat.le_refl _) (I1.hok.fresh (Nat.le_refl _))
theorem pi_tup {l : Expr} {tl : TE} (hl : PE X l tl) : PI X tg l (iTup X.K tl) := by
 intro pins s σ H R I h
 refine thn (hl pins s σ H _ I h) fun v s1 ⟨x, H1, I1, r1, q1⟩ => ?_
 obtain ⟨a, e, ⟨xs, hq⟩, q⟩ := q1
 subst e
 cases r1
 obtain ⟨its, rv, p, hz⟩ := I1.tuple hq
 refine wpAny_pyIter_tuple (show s1.heap.IsTuple a its.toArray from p) ?_
 refine ⟨s1.heap.objs.size, [s1.heap.objs.size], _, _, H1, rfl, I1.kept (t' := s1.toks) fun b o e => Heap.get?_push_of_some _ e, turn_tuple a _, ⟨_, Heap.get?_push_size _ rfl, rfl, rfl⟩, fun b hb => ?_, q⟩
 have e : b = s1.heap.objs.size := by simpa using hb
 subst e
 exact I1.fpOk (Nat.le_refl _) (I1.hok.fresh (Nat.le_refl _))
theorem range_it {pins : List (Addr × Obj)} {σ : St} {H : Hp} {s : Shared} {R : It → Hp → Prop} {E : Value → Shared → Prop} {lo hi : Int} {t u v : Tok} {tk : Nat} (I : Inv X pins σ H s) (h1 : -(2 ^ 62) ≤ lo) (h2 : lo < 2 ^ 62) (h3 : -(2 ^ 62) ≤ hi) (h4 : hi < 2 ^ 62)
   (q : R (Itr lo (hi - lo).toNat) H) : wpAny (model X.prog X.w) X.A (pyIter (.ref s.heap.objs.size)) (PIE X pins σ tg R) E { s with heap := s.heap.push { cls := .type "range", data := .fields #[.int lo t, .int hi u, .int 1 v] }, toks := tk } := by
 refine wpAny_pyIter_range (IsRange.new ..) (small_one h1 h2 h3 h4) ?_
 have I1 : Inv X pins σ H { s with heap := s.heap.push { cls := .type "range", data := .fields #[.int lo t, .int hi u, .int 1 v] }, toks := tk } := I.kept fun b o e => Heap.get?_push_of_some _ e
 refine ⟨(s.heap.push { cls := .type "range", data := .fields #[.int lo t, .int hi u, .int 1 v] }).objs.size, [(s.heap.push { cls := .type "range", data := .fields #[.int lo t, .int hi u, .int 1 v] }).objs.size], _, _, H, rfl,
   I1.kept (t' := tk) fun b o e => Heap.get?_push_of_some _ e, turn_range _ lo (hi - lo).toNat, ?_, fun b hb => ?_, q⟩
 · have e1 : lo + ((0 : Nat) : Int) * 1 = lo := by simp
   have e2 : (((hi - lo).toNat : Nat) : Int) - ((0 : Nat) : Int) = Builtin.Range.rangeSize lo hi 1 := by rw [rangeSize_one]; split <;> omega
   show IsRangeIter _ _ (lo + ((0 : Nat) : Int) * 1) ((((hi - lo).toNat : Nat) : Int) - ((0 : Nat) : Int)) 1
   rw [e1, e2]
   exact Heap.get?_push_size _ rfl
 · have e : b = (s.heap.push { cls := .type "range", data := .fields #[.int lo t, .int hi u, .int 1 v] }).objs.size := by simpa using hb
   subst e
   exact I1.fpOk (Nat.le_refl _) (I1.hok.fresh (Nat.le_refl _))
def iRng1 (ta : TA) : TI := fun σ H R => ta σ H fun vs H1 => ∃ j : Int, vs = [.int j] ∧ -(2 ^ 62) ≤ j ∧ j < 2 ^ 62 ∧ R (Itr 0 j.toNat) H1
theorem pi_range1 {a : Expr} {ta : TA} {p pos : Pos} (hg : Gl X "range") (hm : X.mg "range" = none) (ha : PA X [a] ta) (hs : starEach [a] X.env = [(false, eval a X.env)] := by rfl) : PI X tg (.Call (.Name "range" p) [a] [] pos) (iRng1 ta) := by
 intro pins s σ H R I h
 refine Call_ (ld_blt I hg hm boot_range (PyProof.Rows.callWith_type1 (thn (ha pos pins s σ H _ I h) fun us s1 ⟨vs, H1, I1, r1, q1⟩ => ?_) hs rfl))
 obtain ⟨j, e, q1, q2, q⟩ := q1
 subst e
 cases r1 with
 | cons r rr =>
   cases rr
   obtain ⟨t, rfl⟩ := r
   exact call_range_1 (range_it I1 (by omega) (by omega) q1 q2 (by simpa using q))
def tFor (wi : TI) (g : TG) (tb : TS) : TS := fun D σ H => wi σ H fun J H1 => ∃ W : Nat → Nat → St → Hp → Prop, (∃ m, W 0 m σ H1) ∧ ∀ i m σ H, W i m σ H →
 (J.stop i H ∧ D.nx σ H) ∨ (J.go i H ∧ ∃ N : St → Hp → Prop, (∀ σ' H', N σ' H' → ∃ m', m' < m ∧ W (i + 1) m' σ' H') ∧ ∀ x H', J.yld i H x H' → g x σ H' fun σ2 H2 => tb { D with nx := N, ct := N, bk := D.nx } σ2 H2)
def pinsAt (fp : List Addr) (h : Heap) : List (Addr × Obj) := fp.filterMap fun b => (h.get? b).map fun o => (b, o)
theorem mem_pinsAt {fp : List Addr} {h : Heap} {b : Addr} {o : Obj} (hb : b ∈ fp) (e : h.get? b = some o) : (b, o) ∈ pinsAt fp h := List.mem_filterMap.mpr ⟨b, hb, by rw [e]; rfl⟩
theorem of_pinsAt {fp : List Addr} {h : Heap} {p : Addr × Obj} (hp : p ∈ pinsAt fp h) : p.1 ∈ fp ∧ h.get? p.1 = some p.2 := by
 obtain ⟨b, hb, e⟩ := List.mem_filterMap.mp hp
 cases q : h.get? b with
 | none => rw [q] at e; cases e
 | some o =>
   rw [q] at e
   have e' : (b, o) = p := Option.some.inj e
   subst e'
   exact ⟨hb, q⟩
theorem Inv.pinned {pins : List (Addr × Obj)} {σ : St} {H : Hp} {s : Shared} {fp : List Addr} (I : Inv X pins σ H s) (hf : ∀ b ∈ fp, FpOk X pins H b) (ho : ∀ b ∈ fp, ∃ o, s.heap.get? b = some o ∧ ∀ v, o.data ≠ .cell v) : Inv X (pins ++ pinsAt fp s.heap) σ H s :=
 I.pins_of fun p hp => (List.mem_append.mp hp).elim (fun z => I.pin p (List.mem_append_right _ z)) fun z => by
   obtain ⟨hb, e⟩ := of_pinsAt z
   obtain ⟨f0, f1, f2, _⟩ := hf p.1 hb
   obtain ⟨o, e', d⟩ := ho p.1 hb
   rw [e] at e'; cases e'
   exact ⟨e, f0, f1, f2, d⟩
theorem Inv.unpinned {pins pl : List (Addr × Obj)} {σ : St} {H : Hp} {s : Shared} (I : Inv X (pins ++ pl) σ H s) : Inv X pins σ H s := I.pins_of fun p hp => I.pin p (List.mem_append_right _ (List.mem_append_left _ hp))
theorem ps_for {iter : Expr} {body : List Stmt} {wi : TI} {g : TG} {tb : TS} {pos : Pos} (hp : PassesOwn (model X.prog X.w) X.A X.env X.xe) (hc : X.calm = true) (hi : PI X tg iter wi) (hg : PG X tg g) (hb : PSs X body tb)
   (hs : ∀ x, foldedSetIterable iter X.env x = pure x := by intro _; rfl) : PS X (.For tg iter body [] pos) (tFor wi g tb) := by
 intro pins s σ H D I h
 refine wpAny_For (thn (hi pins s σ H _ I h) fun v s1 h1 => thn h1 fun itv s2 h2 => ?_) hs
 obtain ⟨it, fp, tn, J, H2, e, I2, T, st2, f2, W, ⟨m0, w0⟩, turn⟩ := h2
 subst e
 -- what stays true of the iterator's objects through the loop
 have stat : ∀ {H' : Hp}, (∀ b ∈ fp, H' b = none) → ∀ b ∈ fp, FpOk X pins H' b := fun hn b hb => ⟨hn b hb, (f2 b hb).2⟩
 refine codeAny_forLoop_any (fun n s' => ∃ i σ' H', Inv X pins σ' H' s' ∧ tn i s'.heap ∧ (∀ b ∈ fp, H' b = none) ∧ W i n σ' H') ?_ m0 ⟨0, σ, H2, I2, st2, fun b hb => (f2 b hb).1, w0⟩
 rintro n s3 ⟨i, σ3, H3, I3, st3, fr3, w3⟩
 rcases turn i n σ3 H3 w3 with ⟨stop, qn⟩ | ⟨go, N, hN, step⟩
 · refine wpAny_passesOwn hp (thn (T.done X rfl rfl rfl hc i pins s3 σ3 H3 X.xe I3 (stat fr3) st3 stop) fun r s4 ⟨hr, I4⟩ => ?_)
   subst hr
   exact wpAny_execs_nil ⟨σ3, H3, I4, qn⟩
 · refine wpAny_passesOwn hp (thn (T.item X rfl rfl rfl hc i pins s3 σ3 H3 X.xe I3 (stat fr3) st3 go) fun r s4 ⟨u, hr, h4⟩ => ?_)
   subst hr
   refine wpAny_passesOwn hp (thn h4 fun _ s5 ⟨x, H5, I5, r5, y5, st5, fr5⟩ => ?_)
   have I5' := I5.pinned (stat fr5) (T.obj _ _ st5)
   refine wpAny_passesOwn hp (thn (hg _ s5 σ3 H5 x u _ I5' r5 (step x H5 y5)) fun _ s6 ⟨σ6, H6, I6, q6⟩ => ?_)
   refine wpAny_passesOwn hp (thn (hb _ s6 σ6 H6 _ I6 q6) fun f s7 q7 => ?_)
   have again : ∀ {σ7 : St} {H7 : Hp}, Inv X (pins ++ pinsAt fp s5.heap) σ7 H7 s7 → N σ7 H7 → ∃ m, m < n ∧ ∃ i σ' H', Inv X pins σ' H' s7 ∧ tn i s7.heap ∧ (∀ b ∈ fp, H' b = none) ∧ W i m σ' H' := fun {σ7 H7} I7 n7 => by
     obtain ⟨m', hm, w7⟩ := hN σ7 H7 n7
     refine ⟨m', hm, i + 1, σ7, H7, I7.unpinned, T.keep _ _ _ st5 fun b hb o e => (I7.pin (b, o) (List.mem_append_right _ (List.mem_append_right _ (mem_pinsAt hb e)))).1, fun b hb => ?_, w7⟩
     obtain ⟨o, e, d⟩ := T.obj _ _ st5 b hb
     exact (I7.pin (b, o) (List.mem_append_right _ (List.mem_append_right _ (mem_pinsAt hb e)))).2.1
   cases f with
   | next => obtain ⟨σ7, H7, I7, n7⟩ := q7; exact again I7 n7
   | cont => obtain ⟨σ7, H7, I7, n7⟩ := q7; exact again I7 n7
   | brk => obtain ⟨σ7, H7, I7, q7⟩ := q7; exact ⟨σ7, H7, I7.unpinned, q7⟩
   | ret v => obtain ⟨x7, σ7, H7, I7, r7, q7⟩ := q7; exact ⟨x7, σ7, H7, I7.unpinned, r7, q7⟩
end
theorem for_list {K : PySem.W.Frag} {a : Addr} {xs : List V} {g : TG} {tb : TS} {D : Ends} {σ : St} {H : Hp} (Pv : Nat → St → Hp → Prop) (h0 : Pv 0 σ H) (hl : ∀ i σ H, i ≤ xs.length → Pv i σ H → SqL K H a xs)
   (hs : ∀ i x σ H, xs[i]? = some x → Pv i σ H → g x σ H fun σ2 H2 => tb { D with nx := Pv (i + 1), ct := Pv (i + 1), bk := D.nx } σ2 H2) (hd : ∀ σ H, Pv xs.length σ H → D.nx σ H) :
   ∃ W : Nat → Nat → St → Hp → Prop, (∃ m, W 0 m σ H) ∧ ∀ i m σ H, W i m σ H →
     ((Itl K a).stop i H ∧ D.nx σ H) ∨ ((Itl K a).go i H ∧ ∃ N : St → Hp → Prop, (∀ σ' H', N σ' H' → ∃ m', m' < m ∧ W (i + 1) m' σ' H') ∧ ∀ x H', (Itl K a).yld i H x H' → g x σ H' fun σ2 H2 => tb { D with nx := N, ct := N, bk := D.nx } σ2 H2) := by
 refine ⟨fun i m σ H => m = xs.length - i ∧ i ≤ xs.length ∧ Pv i σ H, ⟨xs.length, by simp, Nat.zero_le _, h0⟩, ?_⟩
 rintro i m σ H ⟨rfl, hi, p⟩
 have q := hl i σ H hi p
 by_cases hlt : i < xs.length
 · refine .inr ⟨⟨xs, xs[i], q, by simp [hlt]⟩, Pv (i + 1), fun σ' H' p' => ⟨xs.length - (i + 1), by omega, rfl, hlt, p'⟩, fun x H' y => ?_⟩
   obtain ⟨e, y⟩ := y
   subst e
   exact hs i x σ _ (y xs q) p
 · have e : i = xs.length := by omega
   subst e
   exact .inl ⟨⟨xs, q, Nat.le_refl _⟩, hd σ H p⟩
theorem for_tup {K : PySem.W.Frag} {a : Addr} {xs : List V} {g : TG} {tb : TS} {D : Ends} {σ : St} {H : Hp} (Pv : Nat → St → Hp → Prop) (h0 : Pv 0 σ H) (hl : ∀ i σ H, i ≤ xs.length → Pv i σ H → SqT K H a xs)
   (hs : ∀ i x σ H, xs[i]? = some x → Pv i σ H → g x σ H fun σ2 H2 => tb { D with nx := Pv (i + 1), ct := Pv (i + 1), bk := D.nx } σ2 H2) (hd : ∀ σ H, Pv xs.length σ H → D.nx σ H) :
   ∃ W : Nat → Nat → St → Hp → Prop, (∃ m, W 0 m σ H) ∧ ∀ i m σ H, W i m σ H →
     ((Itt K a).stop i H ∧ D.nx σ H) ∨ ((Itt K a).go i H ∧ ∃ N : St → Hp → Prop, (∀ σ' H', N σ' H' → ∃ m', m' < m ∧ W (i + 1) m' σ' H') ∧ ∀ x H', (Itt K a).yld i H x H' → g x σ H' fun σ2 H2 => tb { D with nx := N, ct := N, bk := D.nx } σ2 H2) := by
 refine ⟨fun i m σ H => m = xs.length - i ∧ i ≤ xs.length ∧ Pv i σ H, ⟨xs.length, by simp, Nat.zero_le _, h0⟩, ?_⟩
 rintro i m σ H ⟨rfl, hi, p⟩
 have q := hl i σ H hi p
 by_cases hlt : i < xs.length
 · refine .inr ⟨⟨xs, xs[i], q, by simp [hlt]⟩, Pv (i + 1), fun σ' H' p' => ⟨xs.length - (i + 1), by omega, rfl, hlt, p'⟩, fun x H' y => ?_⟩
   obtain ⟨e, y⟩ := y
   subst e
   exact hs i x σ _ (y xs q) p
 · have e : i = xs.length := by omega
   subst e
   exact .inl ⟨⟨xs, q, Nat.le_refl _⟩, hd σ H p⟩
theorem for_range {lo : Int} {n : Nat} {g : TG} {tb : TS} {D : Ends} {σ : St} {H : Hp} (Pv : Nat → St → Hp → Prop) (h0 : Pv 0 σ H)
   (hs : ∀ i σ H, i < n → Pv i σ H → g (.int (lo + i)) σ H fun σ2 H2 => tb { D with nx := Pv (i + 1), ct := Pv (i + 1), bk := D.nx } σ2 H2) (hd : ∀ σ H, Pv n σ H → D.nx σ H) :
   ∃ W : Nat → Nat → St → Hp → Prop, (∃ m, W 0 m σ H) ∧ ∀ i m σ H, W i m σ H →
     ((Itr lo n).stop i H ∧ D.nx σ H) ∨ ((Itr lo n).go i H ∧ ∃ N : St → Hp → Prop, (∀ σ' H', N σ' H' → ∃ m', m' < m ∧ W (i + 1) m' σ' H') ∧ ∀ x H', (Itr lo n).yld i H x H' → g x σ H' fun σ2 H2 => tb { D with nx := N, ct := N, bk := D.nx } σ2 H2) := by
 refine ⟨fun i m σ H => m = n - i ∧ i ≤ n ∧ Pv i σ H, ⟨n, by simp, Nat.zero_le _, h0⟩, ?_⟩
 rintro i m σ H ⟨rfl, hi, p⟩
 by_cases hlt : i < n
 · refine .inr ⟨hlt, Pv (i + 1), fun σ' H' p' => ⟨n - (i + 1), by omega, rfl, hlt, p'⟩, fun x H' y => ?_⟩
   obtain ⟨e, y⟩ := y
   subst e y
   exact hs i σ _ hlt p
 · have e : i = n := by omega
   subst e
   exact .inl ⟨Nat.le_refl _, hd σ H p⟩
end L2

namespace L2
open PySem PySem.Spec PyProof.Rows

abbrev R2 := V → V → Hp → VK → Prop
def OpR (X : Cx) (f : Value → Value → Sem Value) (r : R2) : Prop :=
 ∀ (pins : List (Addr × Obj)) (s : Shared) (σ : St) (H : Hp) (x y : V) (v u : Value) (Q : VK), Inv X pins σ H s → RelV x v → RelV y u → r x y H Q →
   wpAny (model X.prog X.w) X.A (f v u) (EP X pins σ Q) X.xe s
def UnR (X : Cx) (f : Value → Sem Value) (r : V → Hp → VK → Prop) : Prop :=
 ∀ (pins : List (Addr × Obj)) (s : Shared) (σ : St) (H : Hp) (x : V) (v : Value) (Q : VK), Inv X pins σ H s → RelV x v → r x H Q →
   wpAny (model X.prog X.w) X.A (f v) (EP X pins σ Q) X.xe s
def CallR (X : Cx) (f : Value) (r : List V → Hp → VK → Prop) : Prop :=
 ∀ (pins : List (Addr × Obj)) (s : Shared) (σ : St) (H : Hp) (xs : List V) (us : List Value) (Q : VK), Inv X pins σ H s → Vals xs us → r xs H Q →
   wpAny (model X.prog X.w) X.A (call f us) (EP X pins σ Q) X.xe s
def tOp (r : R2) (ta tb : TE) : TE := fun σ H Q => ta σ H fun x H1 => tb σ H1 fun y H2 => r x y H2 Q
def tUn (r : V → Hp → VK → Prop) (ta : TE) : TE := fun σ H Q => ta σ H fun x H1 => r x H1 Q
def rI (C : Int → Int → Prop) (g : Int → Int → V) : R2 := fun x y H Q => ∃ i j, x = .int i ∧ y = .int j ∧ C i j ∧ Q (g i j) H
def rI0 (g : Int → Int → V) : R2 := fun x y H Q => ∃ i j, x = .int i ∧ y = .int j ∧ Q (g i j) H
def rU (g : Int → V) : V → Hp → VK → Prop := fun x H Q => ∃ i, x = .int i ∧ Q (g i) H

section
variable {X : Cx} {a b c : Expr} {ta tb tc : TE} {pos : Pos}

theorem binT (ha : PE X a ta) (hb : PE X b tb) {pins : List (Addr × Obj)} {s : Shared} {σ : St} {H : Hp} {R : V → V → Hp → Prop} (I : Inv X pins σ H s)
   (h : ta σ H fun x H1 => tb σ H1 fun y H2 => R x y H2) {Q : Value → Shared → Prop} {f : Value → Value → Sem Value}
   (hf : ∀ v u s2 x y H2, Inv X pins σ H2 s2 → RelV x v → RelV y u → R x y H2 → wpAny (model X.prog X.w) X.A (f v u) Q X.xe s2) :
   wpAny (model X.prog X.w) X.A (eval a X.env) (fun v s₁ => wpAny (model X.prog X.w) X.A (eval b X.env) (fun u s₂ => wpAny (model X.prog X.w) X.A (f v u) Q X.xe s₂) X.xe s₁) X.xe s := by
 refine thn (ha pins s σ H _ I h) fun v s1 ⟨x, H1, I1, r1, q1⟩ => ?_
 refine thn (hb pins s1 σ H1 _ I1 q1) fun u s2 ⟨y, H2, I2, r2, q2⟩ => ?_
 exact hf v u s2 x y H2 I2 r1 r2 q2

theorem pe_op {op : Operator} {r : R2} (ho : OpR X (binaryOp op) r) (ha : PE X a ta) (hb : PE X b tb) : PE X (.BinOp a op b pos) (tOp r ta tb) := by
 intro pins s σ H Q I h
 exact wpAny_BinOp (binT ha hb I h fun v u s2 x y H2 I2 rx ry q => ho pins s2 σ H2 x y v u Q I2 rx ry q)
theorem pe_un {op : UnaryOp} {r : V → Hp → VK → Prop} (ho : UnR X (unaryOp op) r) (ha : PE X a ta) : PE X (.UnaryOp op a pos) (tUn r ta) := by
 intro pins s σ H Q I h
 exact UnaryOp_ (thn (ha pins s σ H _ I h) fun v s1 ⟨x, H1, I1, r1, q1⟩ => ho pins s1 σ H1 x v Q I1 r1 q1)
theorem opI {f : Value → Value → Sem Value} {C : Int → Int → Prop} {g : Int → Int → Int}
   (rule : ∀ (i j : Int) (t u : Tok) (s : Shared) (Q : Value → Shared → Prop) (E : Value → Shared → Prop), C i j → Q (.int (g i j) s.toks) { s with toks := s.toks + 1 } → wpAny (model X.prog X.w) X.A (f (.int i t) (.int j u)) Q E s) :
   OpR X f (rI C fun i j => .int (g i j)) := by
 intro pins s σ H x y v u Q I rx ry h
 obtain ⟨i, j, rfl, rfl, hc, q⟩ := h
 obtain ⟨t, rfl⟩ := rx
 obtain ⟨t', rfl⟩ := ry
 exact rule i j t t' s _ _ hc ⟨.int (g i j), H, I.tok _, ⟨_, rfl⟩, q⟩
theorem opI0 {f : Value → Value → Sem Value} {g : Int → Int → Int}
   (rule : ∀ (i j : Int) (t u : Tok) (s : Shared) (Q : Value → Shared → Prop) (E : Value → Shared → Prop), Q (.int (g i j) s.toks) { s with toks := s.toks + 1 } → wpAny (model X.prog X.w) X.A (f (.int i t) (.int j u)) Q E s) :
   OpR X f (rI0 fun i j => .int (g i j)) := by
 intro pins s σ H x y v u Q I rx ry h
 obtain ⟨i, j, rfl, rfl, q⟩ := h
 obtain ⟨t, rfl⟩ := rx
 obtain ⟨t', rfl⟩ := ry
 exact rule i j t t' s _ _ ⟨.int (g i j), H, I.tok _, ⟨_, rfl⟩, q⟩
theorem opB0 {f : Value → Value → Sem Value} {g : Int → Int → Bool}
   (rule : ∀ (i j : Int) (t u : Tok) (s : Shared) (Q : Value → Shared → Prop) (E : Value → Shared → Prop), Q (.bool (g i j)) s → wpAny (model X.prog X.w) X.A (f (.int i t) (.int j u)) Q E s) :
   OpR X f (rI0 fun i j => .bl (g i j)) := by
 intro pins s σ H x y v u Q I rx ry h
 obtain ⟨i, j, rfl, rfl, q⟩ := h
 obtain ⟨t, rfl⟩ := rx
 obtain ⟨t', rfl⟩ := ry
 exact rule i j t t' s _ _ ⟨.bl (g i j), H, I, rfl, q⟩

def CDiv (i j : Int) : Prop := 0 < j ∧ j < 1073741824
def CPow (i j : Int) : Prop := 0 ≤ j ∧ j ≤ 1000000 ∧ i.natAbs < 2 ^ 64
def CMul (i j : Int) : Prop := (-(2 ^ 64) < i ∧ i < 2 ^ 64) ∨ (-(2 ^ 64) < j ∧ j < 2 ^ 64)
theorem CMul.ok {i j : Int} (h : CMul i j) : IntMulOk i j := by
 rcases h with ⟨h1, h2⟩ | ⟨h1, h2⟩
 · exact .of_left (intBits_le_64 h1 h2)
 · exact .of_right (intBits_le_64 h1 h2)
theorem op_add : OpR X (binaryOp .Add) (rI0 fun i j => .int (i + j)) := opI0 fun _ _ _ _ _ _ _ q => add_int q
theorem op_sub : OpR X (binaryOp .Sub) (rI0 fun i j => .int (i - j)) := opI0 fun _ _ _ _ _ _ _ q => sub_int q
theorem op_mul : OpR X (binaryOp .Mult) (rI CMul fun i j => .int (i * j)) := opI fun _ _ _ _ _ _ _ hc q => mul_int q hc.ok
theorem op_fdiv : OpR X (binaryOp .FloorDiv) (rI CDiv fun i j => .int (i / j)) := opI fun i j _ _ _ _ _ hc q => by
 have h1 : (0 : Int) < j := hc.1
 have h2 : j < 1073741824 := hc.2
 exact floordiv_int (by omega) (by rw [Int.fdiv_eq_ediv_of_nonneg i (by omega)]; exact q) (.inl (PyProof.noPylong_small (by omega)))
theorem op_mod : OpR X (binaryOp .Mod) (rI (fun _ j => 0 < j) fun i j => .int (i % j)) := opI fun i j _ _ _ _ _ hc q => by
 have h1 : (0 : Int) < j := hc
 exact mod_int' (by omega) (by rw [Int.fmod_eq_emod_of_nonneg i (by omega)]; exact q)
theorem op_pow : OpR X (binaryOp .Pow) (rI CPow fun i j => .int (i ^ j.toNat)) := opI fun _ _ _ _ _ _ _ hc q => pow_int_small hc.1 hc.2.1 hc.2.2 q
theorem unI {f : Value → Sem Value} {g : Int → Int}
   (rule : ∀ (i : Int) (t : Tok) (s : Shared) (Q : Value → Shared → Prop) (E : Value → Shared → Prop), Q (.int (g i) s.toks) { s with toks := s.toks + 1 } → wpAny (model X.prog X.w) X.A (f (.int i t)) Q E s) :
   UnR X f (rU fun i => .int (g i)) := by
 intro pins s σ H x v Q I rx h
 obtain ⟨i, rfl, q⟩ := h
 obtain ⟨t, rfl⟩ := rx
 exact rule i t s _ _ ⟨.int (g i), H, I.tok _, ⟨_, rfl⟩, q⟩
theorem un_neg : UnR X (unaryOp .USub) (rU fun i => .int (-i)) := unI fun _ _ _ _ _ q => neg_int q
end
def scal : V → V → Bool
 | .non, .non => true | .non, .int _ => true | .int _, .non => true | .non, .bl _ => true | .bl _, .non => true | .non, .str _ => true | .str _, .non => true
 | .int _, .int _ => true | .bl _, .bl _ => true | .str _, .str _ => true | .byt _, .byt _ => true
 | .int _, .str _ => true | .str _, .int _ => true | .bl _, .str _ => true | .str _, .bl _ => true
 | _, _ => false
def rEq : R2 := fun x y H Q => scal x y = true ∧ Q (.bl (decide (x = y))) H
def rNe : R2 := fun x y H Q => scal x y = true ∧ Q (.bl (!decide (x = y))) H

theorem dec_int {i j : Int} : decide (V.int i = V.int j) = (i == j) := by
 rw [Bool.eq_iff_iff]
 simp
theorem dec_bl {i j : Bool} : decide (V.bl i = V.bl j) = (i == j) := by
 rw [Bool.eq_iff_iff]
 simp
theorem dec_str {i j : Str} : decide (V.str i = V.str j) = (i == j) := by
 rw [Bool.eq_iff_iff]
 simp
theorem dec_byt {i j : Array UInt8} : decide (V.byt i = V.byt j) = (i.toList == j.toList) := by
 rw [Bool.eq_iff_iff]
 cases i
 cases j
 simp

section
variable {X : Cx} {a b c : Expr} {ta tb tc : TE} {pos : Pos}
theorem fin_bl {pins : List (Addr × Obj)} {σ : St} {H : Hp} {s : Shared} {Q : VK} {k k' : Bool} (I : Inv X pins σ H s) (q : Q (.bl k) H) (e : k = k') : EP X pins σ Q (.bool k') s := by
 subst e
 exact ⟨.bl k, H, I, rfl, q⟩
theorem op_eq : OpR X (compareOp .Eq) rEq := by
 intro pins s σ H x y v u Q I rx ry h
 obtain ⟨hs, q⟩ := h
 cases x with
 | non =>
   cases rx
   cases y with
   | non => cases ry; exact PySem.EqNone.eq_none_none (fin_bl I q (by simp))
   | bl j => cases ry; exact PySem.EqNone.eq_none_bool (fin_bl I q (by simp))
   | int j => obtain ⟨t', rfl⟩ := ry; exact PySem.EqNone.eq_none_int (fin_bl I q (by simp))
   | str j => obtain ⟨t', rfl⟩ := ry; exact PySem.EqNone.eq_none_str (fin_bl I q (by simp))
   | _ => exact absurd (show false = true from hs) Bool.false_ne_true
 | bl i =>
   cases rx
   cases y with
   | non => cases ry; exact PySem.EqNone.eq_bool_none (fin_bl I q (by simp))
   | bl j => cases ry; exact eq_bool (fin_bl I q dec_bl)
   | str j => obtain ⟨t', rfl⟩ := ry; exact PySem.EqMixed.eq_bool_str (fin_bl I q (by simp))
   | _ => exact absurd (show false = true from hs) Bool.false_ne_true
 | int i =>
   obtain ⟨t, rfl⟩ := rx
   cases y with
   | non => cases ry; exact PySem.EqNone.eq_int_none (fin_bl I q (by simp))
   | int j => obtain ⟨t', rfl⟩ := ry; exact eq_int (fin_bl I q dec_int)
   | str j => obtain ⟨t', rfl⟩ := ry; exact PySem.EqMixed.eq_int_str (fin_bl I q (by simp))
   | _ => exact absurd (show false = true from hs) Bool.false_ne_true
 | str i =>
   obtain ⟨t, rfl⟩ := rx
   cases y with
   | non => cases ry; exact PySem.EqNone.eq_str_none (fin_bl I q (by simp))
   | bl j => cases ry; exact PySem.EqMixed.eq_str_bool (fin_bl I q (by simp))
   | int j => obtain ⟨t', rfl⟩ := ry; exact PySem.EqMixed.eq_str_int (fin_bl I q (by simp))
   | str j => obtain ⟨t', rfl⟩ := ry; exact eq_str (fin_bl I q dec_str)
   | _ => exact absurd (show false = true from hs) Bool.false_ne_true
 | byt i =>
   obtain ⟨t, rfl⟩ := rx
   cases y with
   | byt j => obtain ⟨t', rfl⟩ := ry; exact PySem.W.eq_bytes (fin_bl I q dec_byt)
   | _ => exact absurd (show false = true from hs) Bool.false_ne_true
 | _ => cases y <;> exact absurd (show false = true from hs) Bool.false_ne_true
theorem op_ne : OpR X (compareOp .NotEq) rNe := by
 intro pins s σ H x y v u Q I rx ry h
 obtain ⟨hs, q⟩ := h
 cases x with
 | non =>
   cases rx
   cases y with
   | non => cases ry; exact PySem.EqNone.ne_none_none (fin_bl I q (by simp))
   | bl j => cases ry; exact PySem.EqNone.ne_none_bool (fin_bl I q (by simp))
   | int j => obtain ⟨t', rfl⟩ := ry; exact PySem.EqNone.ne_none_int (fin_bl I q (by simp))
   | str j => obtain ⟨t', rfl⟩ := ry; exact PySem.EqNone.ne_none_str (fin_bl I q (by simp))
   | _ => exact absurd (show false = true from hs) Bool.false_ne_true
 | bl i =>
   cases rx
   cases y with
   | non => cases ry; exact PySem.EqNone.ne_bool_none (fin_bl I q (by simp))
   | bl j => cases ry; exact ne_bool (fin_bl I q (congrArg not dec_bl))
   | str j => obtain ⟨t', rfl⟩ := ry; exact PySem.EqMixed.ne_bool_str (fin_bl I q (by simp))
   | _ => exact absurd (show false = true from hs) Bool.false_ne_true
 | int i =>
   obtain ⟨t, rfl⟩ := rx
   cases y with
   | non => cases ry; exact PySem.EqNone.ne_int_none (fin_bl I q (by simp))
   | int j => obtain ⟨t', rfl⟩ := ry; exact ne_int (fin_bl I q (congrArg not dec_int))
   | str j => obtain ⟨t', rfl⟩ := ry; exact PySem.EqMixed.ne_int_str (fin_bl I q (by simp))
   | _ => exact absurd (show false = true from hs) Bool.false_ne_true
 | str i =>
   obtain ⟨t, rfl⟩ := rx
   cases y with
   | non => cases ry; exact PySem.EqNone.ne_str_none (fin_bl I q (by simp))
   | bl j => cases ry; exact PySem.EqMixed.ne_str_bool (fin_bl I q (by simp))
   | int j => obtain ⟨t', rfl⟩ := ry; exact PySem.EqMixed.ne_str_int (fin_bl I q (by simp))
   | str j => obtain ⟨t', rfl⟩ := ry; exact ne_str (fin_bl I q (congrArg not dec_str))
   | _ => exact absurd (show false = true from hs) Bool.false_ne_true
 | byt i =>
   obtain ⟨t, rfl⟩ := rx
   cases y with
   | byt j => obtain ⟨t', rfl⟩ := ry; exact PySem.W.ne_bytes (fin_bl I q (congrArg not dec_byt))
   | _ => exact absurd (show false = true from hs) Bool.false_ne_true
 | _ => cases y <;> exact absurd (show false = true from hs) Bool.false_ne_true

theorem op_lt : OpR X (compareOp .Lt) (rI0 fun i j => .bl (decide (i < j))) := opB0 fun _ _ _ _ _ _ _ q => lt_int q
theorem op_le : OpR X (compareOp .LtE) (rI0 fun i j => .bl (decide (i ≤ j))) := opB0 fun _ _ _ _ _ _ _ q => le_int q
theorem op_gt : OpR X (compareOp .Gt) (rI0 fun i j => .bl (decide (j < i))) := opB0 fun _ _ _ _ _ _ _ q => gt_int q
theorem op_ge : OpR X (compareOp .GtE) (rI0 fun i j => .bl (decide (j ≤ i))) := opB0 fun _ _ _ _ _ _ _ q => ge_int q
theorem op_in_str : OpR X (compareOp .In) (fun x y H Q => ∃ i j, x = .str i ∧ y = .str j ∧ Q (.bl (!(Builtin.Str.occurrences j i 0 j.length 1).isEmpty)) H) := by
 intro pins s σ H x y v u Q I rx ry h
 obtain ⟨i, j, rfl, rfl, q⟩ := h
 obtain ⟨t, rfl⟩ := rx
 obtain ⟨t', rfl⟩ := ry
 exact in_str (fin_bl I q rfl)
theorem op_isN : OpR X (compareOp .Is) (fun x y H Q => y = .non ∧ Q (.bl (decide (x = .non))) H) := by
 intro pins s σ H x y v u Q I rx ry h
 obtain ⟨rfl, q⟩ := h
 cases ry
 refine is_none_gen (fin_bl I q ?_)
 cases x <;> first
   | (cases rx; rfl)
   | (obtain ⟨t, rfl⟩ := rx; rfl)
theorem op_notN : OpR X (compareOp .IsNot) (fun x y H Q => y = .non ∧ Q (.bl (!decide (x = .non))) H) := by
 intro pins s σ H x y v u Q I rx ry h
 obtain ⟨rfl, q⟩ := h
 cases ry
 refine isnot_none_gen (fin_bl I q ?_)
 cases x <;> first
   | (cases rx; rfl)
   | (obtain ⟨t, rfl⟩ := rx; rfl)

theorem OpR.or {f : Value → Value → Sem Value} {r r' : R2} (h : OpR X f r) (h' : OpR X f r') : OpR X f (fun x y H Q => r x y H Q ∨ r' x y H Q) := by
 intro pins s σ H x y v u Q I rx ry q
 rcases q with q | q
 · exact h pins s σ H x y v u Q I rx ry q
 · exact h' pins s σ H x y v u Q I rx ry q

theorem nomark (b : Expr) {op : CmpOp} (h : op ≠ .In := by decide) (h2 : op ≠ .NotIn := by decide) : behindInMarks op b = false := by
 have e1 : (op == CmpOp.In) = false := by cases op <;> first | rfl | exact absurd rfl h
 have e2 : (op == CmpOp.NotIn) = false := by cases op <;> first | rfl | exact absurd rfl h2
 cases b <;> simp [behindInMarks, e1, e2]
theorem pe_cmpR {op : CmpOp} {r : R2} (ho : OpR X (compareOp op) r) (ha : PE X a ta) (hb : PE X b tb) (hm : behindInMarks op b = false) : PE X (.Compare a [op] [b] pos) (tOp r ta tb) := by
 intro pins s σ H Q I h
 exact wpAny_Compare1 (binT ha hb I h fun v u s2 x y H2 I2 rx ry q => ho pins s2 σ H2 x y v u Q I2 rx ry q) hm
def tTest (t : TE) : TT := fun σ H Q => t σ H fun x H' => ∃ k, x = .bl k ∧ Q k H'
theorem pt_cmpR {op : CmpOp} {r : R2} (ho : OpR X (compareOp op) r) (ha : PE X a ta) (hb : PE X b tb) (hm : behindInMarks op b = false) : PT X (.Compare a [op] [b] pos) (tTest (tOp r ta tb)) := by
 intro pins s σ H Q I h
 refine wpAny_isTrue_Compare1 (thn (ha pins s σ H _ I h) fun v s1 ⟨x, H1, I1, r1, q1⟩ => thn (hb pins s1 σ H1 _ I1 q1) fun u s2 ⟨y, H2, I2, r2, q2⟩ =>
   thn (ho pins s2 σ H2 x y v u _ I2 r1 r2 q2) fun c s3 ⟨z, H3, I3, r3, k, e, q3⟩ => ?_) hm
 subst e
 cases r3
 exact wpAny_truthy_bool ⟨H3, I3, q3⟩
theorem line63 : (sizeLine : Nat) < 2 ^ 63 := by rw [sizeLine_eq]; decide
theorem op_add_str : OpR X (binaryOp .Add) (fun x y H Q => ∃ i j, x = .str i ∧ y = .str j ∧ i.length + j.length ≤ sizeLine ∧ Q (.str (i ++ j)) H) := by
 intro pins s σ H x y v u Q I rx ry h
 obtain ⟨i, j, rfl, rfl, hz, q⟩ := h
 obtain ⟨t, rfl⟩ := rx
 obtain ⟨t', rfl⟩ := ry
 exact add_str (fun t' tk => ⟨.str (i ++ j), H, I.tok _, ⟨_, rfl⟩, q⟩) hz
theorem vals1 {x : V} {us : List Value} (r : Vals [x] us) : ∃ u, us = [u] ∧ RelV x u := by
 cases r with
 | cons r1 r2 => cases r2; exact ⟨_, rfl, r1⟩
theorem vals2 {x y : V} {us : List Value} (r : Vals [x, y] us) : ∃ u w', us = [u, w'] ∧ RelV x u ∧ RelV y w' := by
 cases r with
 | cons r1 r2 =>
   cases r2 with
   | cons r3 r4 => cases r4; exact ⟨_, _, rfl, r1, r3⟩
theorem call_max2 (hc : X.calm = true) : CallR X (.builtin "max") (fun xs H Q => ∃ i j, xs = [.int i, .int j] ∧ Q (.int (if j > i then j else i)) H) := by
 intro pins s σ H xs us Q I r h
 obtain ⟨i, j, rfl, q⟩ := h
 obtain ⟨u, w', rfl, ⟨t, rfl⟩, ⟨t', rfl⟩⟩ := vals2 r
 refine max_two_ints (I.ok.hd hc) fun h' tk k => ⟨_, H, I.kept k, ?_, q⟩
 by_cases hj : j > i
 · rw [if_pos hj, if_pos hj]; exact ⟨_, rfl⟩
 · rw [if_neg hj, if_neg hj]; exact ⟨_, rfl⟩
theorem call_ord : CallR X (.builtin "ord") (fun xs H Q => ∃ x, xs = [.str x] ∧ x.length = 1 ∧ Q (.int (x.cps.getD 0 0 : Nat)) H) := by
 intro pins s σ H xs us Q I r h
 obtain ⟨x, rfl, hz, q⟩ := h
 obtain ⟨u, rfl, t, rfl⟩ := vals1 r
 exact ord_of_one hz ⟨.int _, H, I.tok _, ⟨_, rfl⟩, q⟩
end
end L2

namespace L2
open PySem PySem.Spec PyProof.Rows
structure ObjM (h : Heap) (x dx C : Addr) (mA : Str → Option Value) : Prop where
 obj : h.get? x = some (PySem.W.instObj C dx)
 ns : h.Ns1 dx mA
 ne : dx ≠ x

theorem lookIn_ns {h : Heap} {dx : Addr} {mA : Str → Option Value} (n : h.Ns1 dx mA) : ∃ od, h.get? dx = some od ∧ ∀ name, PySem.W.lookIn name od = some (mA name) := by
 obtain ⟨o, es, ep, ho, hd, hk, _, hm⟩ := n
 refine ⟨o, ho, fun name => ?_⟩
 have e := hm name
 unfold nsFind findBy at e
 rw [← Array.find?_toList] at e
 unfold PySem.W.lookIn
 rw [hd]
 dsimp only
 split
 · rename_i y q
   rw [q] at e
   exact congrArg some e
 · rename_i q
   rw [q] at e
   have a : es.toList.any (·.refKey) = false := by
     rw [List.any_eq_false]
     intro y hy
     obtain ⟨z, t, hkey⟩ := hk y (Array.mem_toList_iff.mp hy)
     simp [DictEntry.refKey, hkey]
   have a' : ¬ es.toList.any (·.refKey) = true := by rw [a]; exact Bool.false_ne_true
   rw [if_neg a']
   exact congrArg some e

theorem ObjM.look {h : Heap} {x dx C : Addr} {mA : Str → Option Value} (I : ObjM h x dx C mA) : ∃ od, PySem.W.InstAt h x (PySem.W.instObj C dx) C (some od) ∧ ∀ name, PySem.W.lookIn name od = some (mA name) :=
 let ⟨od, ho, hl⟩ := lookIn_ns I.ns
 ⟨od, ⟨I.obj, rfl, rfl, ho⟩, hl⟩

section
variable {prog : Program} {w : World} {A : Around} {E : Value → Shared → Prop} {s : Shared} {K : PySem.W.Frag} {x dx C f : Addr} {mA : Str → Option Value} {name : Str} {v : Value}

theorem get_map {expr : Bool} {Q : Value → Shared → Prop} (X : K.In s.heap) (I : ObjM s.heap x dx C mA) (hg : PySem.W.plainGet K C name = true) (hh : PySem.W.hasDictIn K C = true)
   (ha : PySem.W.findIn K (.ref C) name = some none) (hv : mA name = some v) (hv' : PySem.W.handedIn v = true) (h : Q v { s with toks := s.toks + 1 }) :
   wpAny (model prog w) A (getAttr (.ref x) name expr) Q E s := by
 obtain ⟨od, J, hl⟩ := I.look
 exact PySem.W.get_value X J (PySem.W.plainGet_of hg).1 (PySem.W.findObj_own hh ha rfl (by rw [hl, hv])) hv' h

theorem get_meth {pl : Sem Bool} {Q : Value × List Value → Shared → Prop} (X : K.In s.heap) (I : ObjM s.heap x dx C mA) (hg : PySem.W.plainGet K C name = true)
   (hf : PySem.W.findIn K (.ref C) name = some (some (.ref f))) (ht : PySem.W.isFn K (.ref f) = true) (hv : mA name = none) (h : Q (.ref f, [.ref x]) s) :
   wpAny (model prog w) A (getMethod (.ref x) name pl) Q E s := by
 obtain ⟨od, J, hl⟩ := I.look
 exact PySem.W.method_fn X J (PySem.W.plainGet_of hg).1 (PySem.W.plainGet_of hg).2 hf (beq_iff_eq.mp ht) (by show (PySem.W.lookIn name od).map (·.isSome) = some false; rw [hl, hv]; rfl) h

theorem set_map {ns : List Str} {Q : Unit → Shared → Prop} (X : K.In s.heap) (I : ObjM s.heap x dx C mA)
   (hs : PySem.W.findIn K (.ref C) "__setattr__" = some (some (.builtin "object.__setattr__"))) (hp : PySem.W.plainOver K C = true) (ht : PySem.W.takerIn K C name = some none) (hh : PySem.W.hasDictIn K C = true)
   (hw : PySem.Within mA ns) (hsz : ns.length ≤ sizeLine)
   (h : ∀ h', ObjM h' x dx C (fun y => if y = name then some v else mA y) → Heap.SameBut dx s.heap h' → Q () { s with heap := h', toks := s.toks + 2 }) :
   wpAny (model prog w) A (setAttr (.ref x) name v) Q E s := by
 obtain ⟨od, J, hl⟩ := I.look
 refine PySem.W.set_plain X J hs (PySem.W.osa_open (s := { s with toks := s.toks + 1 }) (r := none) X J hp ht fun b => ?_)
 obtain ⟨cd, hc, hd'⟩ := PySem.W.any_some hh
 have hx : s.heap.get? x = some ⟨.ref C, some dx, .plain, #[]⟩ := I.obj
 refine wpAny_bind (wpAny_pure (wpAny_bind (wpAny_bind (wpAny_loadPart hx (wpAny_bind (PySem.W.Looks.here (s := { s with toks := s.toks + 1 }) (PySem.W.looks_clsIn X hc) ?_))))))
 rw [hd']
 refine wpAny_pure (a := some dx) (wpAny_bind (wpAny_pure (wpAny_bind ?_)))
 refine wpAny_nsSet1 (s := { s with toks := s.toks + 1 }) I.ns fun h' hn2 hs2 => ?_
 obtain ⟨oD, esD, epD, hoD, hdD, hcD⟩ := hn2.count (PySem.Within.cons name v hw)
 refine wpAny_bind (wpAny_lookBehind hoD (by rw [hdD]; exact pastItsLine_dict (Nat.le_trans hcD (by rw [List.length_cons]; omega))) ?_)
 exact wpAny_pure (h _ ⟨(hs2.2 _ (Ne.symm I.ne)).trans I.obj, hn2, I.ne⟩ hs2)
theorem make_map {R : Result → Shared → Prop} {vs : List Value} {kw : List (Str × Value)} (X : K.In s.heap) (hm : PySem.W.makesIn K C = true)
   (hi : PySem.W.findIn K (.ref C) "__init__" = some (some (.ref f))) (hf : PySem.W.typeIn K (.ref f) = some (.type "function"))
   (h : codeAny (model prog w) (A.under (.builtin "type.__call__" ⟨.ref C :: vs, kw⟩)) (.call (.ref f) ⟨.ref (s.heap.objs.size + 1) :: vs, kw⟩) (PySem.W.InitBack (s.heap.objs.size + 1) R)
     { s with heap := (s.heap.push PySem.W.emptyDict).push (PySem.W.instObj C s.heap.objs.size) }) :
   codeAny (model prog w) A (.call (.ref C) ⟨vs, kw⟩) R s := by
 obtain ⟨hh, g, d, t, os⟩ := s
 exact PySem.W.make_core (PySem.W.makes_of X hm) (PySem.W.looks_findIn X hi) (fun self => PySem.W.bind_fn X self hf) (.inl rfl) h
end
def putF (f : Str) (v : V) : List (Str × V) → List (Str × V)
 | [] => [(f, v)]
 | (g, x) :: r => if g = f then (g, v) :: r else (g, x) :: putF f v r
theorem lookup_putF (f g : Str) (v : V) : ∀ fs : List (Str × V), (putF f v fs).lookup g = if g = f then some v else fs.lookup g
 | [] => by
   show List.lookup g [(f, v)] = _
   by_cases h : g = f
   · have hb : (g == f) = true := beq_iff_eq.mpr h
     simp only [List.lookup, hb, if_pos h]
   · have hb : (g == f) = false := beq_eq_false_iff_ne.mpr h
     simp only [List.lookup, hb, if_neg h]
 | (k, x) :: r => by
   have ih := lookup_putF f g v r
   rw [show putF f v ((k, x) :: r) = (if k = f then (k, v) :: r else (k, x) :: putF f v r) from rfl]
   by_cases hk : k = f
   · rw [if_pos hk]
     by_cases h : g = k
     · have hb : (g == k) = true := beq_iff_eq.mpr h
       simp only [List.lookup, hb, if_pos (h.trans hk)]
     · have hb : (g == k) = false := beq_eq_false_iff_ne.mpr h
       simp only [List.lookup, hb, if_neg (fun e : g = f => h (e.trans hk.symm))]
   · rw [if_neg hk]
     by_cases h : g = k
     · have hb : (g == k) = true := beq_iff_eq.mpr h
       simp only [List.lookup, hb, if_neg (fun e : g = f => hk (h.symm.trans e))]
     · have hb : (g == k) = false := beq_eq_false_iff_ne.mpr h
       simp only [List.lookup, hb]
       exact ih
theorem keys_putF (f : Str) (v : V) : ∀ fs : List (Str × V), f ∈ (putF f v fs).map (·.1) ∧ ∀ g, g ∈ fs.map (·.1) → g ∈ (putF f v fs).map (·.1)
 | [] => ⟨by simp [putF], fun g h => by simp at h⟩
 | (k, x) :: r => by
   obtain ⟨i1, i2⟩ := keys_putF f v r
   rw [show putF f v ((k, x) :: r) = (if k = f then (k, v) :: r else (k, x) :: putF f v r) from rfl]
   by_cases hk : k = f
   · rw [if_pos hk]
     subst hk
     exact ⟨by simp, fun g h => by simpa using h⟩
   · rw [if_neg hk]
     refine ⟨?_, fun g h => ?_⟩
     · rw [List.map_cons]
       exact List.mem_cons_of_mem _ i1
     · rw [List.map_cons] at h ⊢
       rcases List.mem_cons.mp h with e | e
       · exact List.mem_cons.mpr (.inl e)
       · exact List.mem_cons_of_mem _ (i2 g e)
theorem length_putF (f : Str) (v : V) : ∀ fs : List (Str × V), (putF f v fs).length ≤ fs.length + 1
 | [] => by simp [putF]
 | (k, x) :: r => by
   have ih := length_putF f v r
   rw [show putF f v ((k, x) :: r) = (if k = f then (k, v) :: r else (k, x) :: putF f v r) from rfl]
   by_cases hk : k = f
   · rw [if_pos hk, List.length_cons, List.length_cons]; omega
   · rw [if_neg hk, List.length_cons, List.length_cons]; omega

theorem RelO.some_of {v : V} {o : Option Value} (r : RelO (some v) o) : ∃ u, o = some u ∧ RelV v u := by
 cases o with
 | none => exact (show False from r).elim
 | some u => exact ⟨u, rfl, r⟩
theorem RelO.none_of {o : Option Value} (r : RelO none o) : o = none := by
 cases o with
 | none => rfl
 | some u => exact (show False from r).elim
theorem handed_of {v : V} {u : Value} (r : RelV v u) : PySem.W.handedIn u = true := by
 cases v with
 | non => cases (show u = Value.none from r); rfl
 | bl b => cases (show u = Value.bool b from r); rfl
 | int i => obtain ⟨t, e⟩ := (show ∃ t, u = Value.int i t from r); cases e; rfl
 | str x => obtain ⟨t, e⟩ := (show ∃ t, u = Value.str x t from r); cases e; rfl
 | byt b => obtain ⟨t, e⟩ := (show ∃ t, u = Value.bytes b t from r); cases e; rfl
 | flt b => obtain ⟨t, e⟩ := (show ∃ t, u = Value.float b t from r); cases e; rfl
 | ref a => cases (show u = Value.ref a from r); rfl
 | ty n => cases (show u = Value.type n from r); rfl

section
variable {P : Program} {w : World} {H H' : Hp} {h h' : Heap} {a C dx : Addr} {fs fs' : List (Str × V)}
theorem ins_get (hok : HOk P w H h) (e : H a = some (.ins C dx fs)) : ∃ mA, ObjM h a dx C mA ∧ (∀ f, RelO (fs.lookup f) (mA f)) ∧ PySem.Within mA (fs.map (·.1)) ∧ fs.length ≤ 1000 ∧ H dx = some (.own a) := by
 obtain ⟨d, z, ne, ob, mA, n, r, q⟩ := (show ObjOk P w H h a (.ins C dx fs) from hok a _ e)
 exact ⟨mA, ⟨ob, n, ne⟩, r, q, z, d⟩
end
structure Cls (K : PySem.W.Frag) (C : Addr) : Prop where
 pg : PySem.W.plainGet K C Str.empty = true
 hd : PySem.W.hasDictIn K C = true
 po : PySem.W.plainOver K C = true
 sa : PySem.W.findIn K (.ref C) "__setattr__" = some (some (.builtin "object.__setattr__"))
theorem Cls.get {K : PySem.W.Frag} {C : Addr} (c : Cls K C) (f : Str) : PySem.W.plainGet K C f = true := c.pg
def NoAttr (K : PySem.W.Frag) (C : Addr) (f : Str) : Prop := PySem.W.findIn K (.ref C) f = some none
theorem NoAttr.taker {K : PySem.W.Frag} {C : Addr} {f : Str} (n : NoAttr K C f) : PySem.W.takerIn K C f = some none := by
 unfold PySem.W.takerIn
 rw [show PySem.W.findIn K (.ref C) f = some none from n]
 rfl
structure Meth (K : PySem.W.Frag) (C : Addr) (m : Str) (f : Addr) : Prop where
 at_ : PySem.W.findIn K (.ref C) m = some (some (.ref f))
 fn : PySem.W.isFn K (.ref f) = true
 kp : PySem.W.keepIn K (.ref f) = true

section
variable {X : Cx} {pins : List (Addr × Obj)} {σ : St} {H : Hp} {s : Shared} {a C dx : Addr} {fs : List (Str × V)} {f : Str} {v : V} {A : Around} {E : Value → Shared → Prop}

theorem getattr_ok {b : Bool} {Q : Value → Shared → Prop} (I : Inv X pins σ H s) (e : H a = some (.ins C dx fs)) (c : Cls X.K C) (n : NoAttr X.K C f) (l : fs.lookup f = some v)
   (h : ∀ u s', Inv X pins σ H s' → RelV v u → Q u s') : wpAny (model X.prog X.w) A (getAttr (.ref a) f b) Q E s := by
 obtain ⟨mA, O, r, _, _, _⟩ := ins_get I.hok e
 obtain ⟨u, hu, ru⟩ := RelO.some_of (v := v) (o := mA f) (by rw [← l]; exact r f)
 exact get_map I.kIn O (c.get f) c.hd n hu (handed_of ru) (h u _ (I.tok _) ru)

theorem getmeth_ok {m : Str} {g : Addr} {pl : Sem Bool} {Q : Value × List Value → Shared → Prop} (I : Inv X pins σ H s) (e : H a = some (.ins C dx fs)) (c : Cls X.K C) (k : Meth X.K C m g) (l : fs.lookup m = none)
   (h : Q (.ref g, [.ref a]) s) : wpAny (model X.prog X.w) A (getMethod (.ref a) m pl) Q E s := by
 obtain ⟨mA, O, r, _, _, _⟩ := ins_get I.hok e
 have hn : mA m = none := RelO.none_of (by rw [← l]; exact r m)
 exact get_meth I.kIn O (c.get m) k.at_ k.fn hn h

theorem setattr_ok {y : V} {u : Value} {Q : Unit → Shared → Prop} (I : Inv X pins σ H s) (e : H a = some (.ins C dx fs)) (c : Cls X.K C) (n : NoAttr X.K C f) (hl : fs.length < 1000) (ry : RelV y u)
   (h : ∀ s', Inv X pins σ (upd H a (.ins C dx (putF f y fs))) s' → Q () s') : wpAny (model X.prog X.w) A (setAttr (.ref a) f u) Q E s := by
 obtain ⟨mA, O, r, wi, _, ho⟩ := ins_get I.hok e
 have hz : (fs.map (·.1)).length ≤ sizeLine := by rw [List.length_map, sizeLine_eq]; omega
 refine set_map I.kIn O c.sa c.po n.taker c.hd wi hz fun h' O' sb => h _ ?_
 have hd : ∃ o, h'.get? dx = some o := let ⟨o, _, _, e', _⟩ := O'.ns; ⟨o, e'⟩
 refine I.write (x := a) (e := dx) (by rw [e]; exact True.intro) (.inr ho) (fun b q hb z => (sb.2 b hb).trans z) hd ?_
 refine ⟨by rw [upd_ne O.ne]; exact ho, ?_, O.ne, O'.obj, _, O'.ns, fun g => ?_, fun g hg => ?_⟩
 · have := length_putF f y fs; omega
 · show RelO ((putF f y fs).lookup g) (if g = f then some u else mA g)
   rw [lookup_putF]
   by_cases q : g = f
   · rw [if_pos q, if_pos q]; exact ry
   · rw [if_neg q, if_neg q]; exact r g
 · by_cases q : g = f
   · rw [q]; exact (keys_putF f y fs).1
   · refine (keys_putF f y fs).2 g (wi g fun z => hg ?_)
     show (if g = f then some u else mA g) = none
     rw [if_neg q]; exact z
theorem Inv.made (I : Inv X pins σ H s) : Inv X pins σ (upd (upd H s.heap.objs.size (.own (s.heap.objs.size + 1))) (s.heap.objs.size + 1) (.ins C s.heap.objs.size []))
   { s with heap := (s.heap.push PySem.W.emptyDict).push (PySem.W.instObj C s.heap.objs.size) } := by
 have e1 : (s.heap.push PySem.W.emptyDict).get? s.heap.objs.size = some PySem.W.emptyDict := Heap.get?_push_size s.heap rfl
 have e2 : ((s.heap.push PySem.W.emptyDict).push (PySem.W.instObj C s.heap.objs.size)).get? (s.heap.objs.size + 1) = some (PySem.W.instObj C s.heap.objs.size) := by
   have := Heap.get?_push_size (s.heap.push PySem.W.emptyDict) (o := PySem.W.instObj C s.heap.objs.size) rfl
   rwa [Heap.size_push] at this
 have e3 : (s.heap.push PySem.W.emptyDict).Ns s.heap.objs.size (fun _ => none) := ⟨PySem.W.emptyDict, #[], _, e1, rfl, (fun e he => absurd he (by simp)), fun _ => rfl⟩
 have I1 := I.laid (a := s.heap.objs.size) (o := .own (s.heap.objs.size + 1)) (h' := s.heap.push PySem.W.emptyDict) (t' := s.toks) (fun b u q => Heap.get?_push_of_some _ q) (Nat.le_refl _) ⟨_, e1⟩
 refine I1.laid (a := s.heap.objs.size + 1) (o := .ins C s.heap.objs.size []) (t' := s.toks) (fun b u q => Heap.get?_push_of_some _ q) (Nat.le_of_eq (Heap.size_push _ _)) ?_
 have ne : s.heap.objs.size ≠ s.heap.objs.size + 1 := Nat.ne_of_lt (Nat.lt_succ_self _)
 refine ⟨by rw [upd_ne ne, upd_same], Nat.zero_le _, ne, e2, fun _ => none, (Heap.Ns1.of_empty e3).at fun o q => Heap.get?_push_of_some _ q, fun _ => True.intro, fun y hy => absurd rfl hy⟩
theorem attr_of {prog : Program} {w : World} {env : Env} {e : Expr} {f : Str} {pos : Pos} {s : Shared} {Q : Value → Shared → Prop} (hb : attributeBase e f env (eval e env) = eval e env)
   (h : wpAny (model prog w) A (eval e env) (fun o s₁ => wpAny (model prog w) A (getAttr o f true) Q E s₁) E s) : wpAny (model prog w) A (eval (.Attribute e f pos) env) Q E s :=
 Attribute_any_ h (by rw [arm_eval_Attribute, hb])
end
def tFld (K : PySem.W.Frag) (ta : TE) (f : Str) : TE := fun σ H Q => ta σ H fun x H1 => ∃ a C dx fs v, x = .ref a ∧ H1 a = some (.ins C dx fs) ∧ Cls K C ∧ NoAttr K C f ∧ fs.lookup f = some v ∧ Q v H1
def sFld (K : PySem.W.Frag) (ta tv : TE) (f : Str) : TS := fun D σ H => tv σ H fun y H1 => ta σ H1 fun x H2 => ∃ a C dx fs, x = .ref a ∧ H2 a = some (.ins C dx fs) ∧ Cls K C ∧ NoAttr K C f ∧ fs.length < 1000 ∧
 D.nx σ (upd H2 a (.ins C dx (putF f y fs)))
section
variable {X : Cx} {o e value : Expr} {f : Str} {pos pos' tpos : Pos} {ta tv : TE}
theorem pe_fld (he : PE X e ta) (hb : attributeBase e f X.env (eval e X.env) = eval e X.env) : PE X (.Attribute e f pos) (tFld X.K ta f) := by
 intro pins s σ H Q I h
 refine attr_of hb (thn (he pins s σ H _ I h) fun u s1 ⟨x, H1, I1, rx, a, C, dx, fs, v, ex, ea, c, n, l, q⟩ => ?_)
 subst ex
 obtain rfl : u = Value.ref a := rx
 exact getattr_ok I1 ea c n l fun u' s2 I2 ru => ⟨v, H1, I2, ru, q⟩
theorem ps_fld (ha : PE X o ta) (hv : PE X value tv) (hs : swapsWith value (some (.Attribute o f pos')) pos.line X.env = pure false) : PS X (.Assign [.Attribute o f pos'] value pos) (sFld X.K ta tv f) := by
 intro pins s σ H D I h
 refine plainObj_wpAny_Assign_Attribute (thn (hv pins s σ H _ I h) fun u s1 ⟨y, H1, I1, ry, q⟩ => thn (ha pins s1 σ H1 _ I1 q) fun ov s2 ⟨x, H2, I2, rx, a, C, dx, fs, ex, ea, c, n, l, q2⟩ => ?_) hs
 subst ex
 obtain rfl : ov = Value.ref a := rx
 exact setattr_ok I2 ea c n l ry fun s3 I3 => ⟨σ, _, I3, q2⟩
end
section
variable {X : Cx} {pins : List (Addr × Obj)} {σ : St} {H : Hp} {s : Shared} {A : Around} {E : Value → Shared → Prop} {Q : Value → Shared → Prop} {c : Value} {b : Bool}
inductive TyOf (K : PySem.W.Frag) (H : Hp) : V → Value → Prop where
 | non : TyOf K H .non (.type "NoneType")
 | bl (x : Bool) : TyOf K H (.bl x) (.type "bool")
 | int (i : Int) : TyOf K H (.int i) (.type "int")
 | str (x : Str) : TyOf K H (.str x) (.type "str")
 | flt (x : UInt64) : TyOf K H (.flt x) (.type "float")
 | lst {a : Addr} {xs : List V} (e : H a = some (.lst xs)) : TyOf K H (.ref a) (.type "list")
 | frz {a : Addr} {o : Obj} {xs : List V} (e : H a = some (.frz o (.lst xs))) : TyOf K H (.ref a) (.type "list")
 | tup {a : Addr} {xs : List V} (e : H a = some (.tup xs)) : TyOf K H (.ref a) (.type "tuple")
 | dK {a : Addr} {kvs : List (Key × V)} (e : H a = some (.dK kvs)) : TyOf K H (.ref a) (.type "dict")
 | dT {a : Addr} {kvs : List (List Key × V)} (e : H a = some (.dT kvs)) : TyOf K H (.ref a) (.type "dict")
 | ins {a C dx : Addr} {fs : List (Str × V)} (e : H a = some (.ins C dx fs)) (cl : Cls K C) (ha : PySem.W.findIn K (.ref C) "__class__" = some (some (.builtin "object.__class__")))
     (hn : PySem.W.specialIn K (.builtin "object.__class__") "__get__" = some (some (.builtin "getset_descriptor.__get__"))) (htk : PySem.W.takesIn K (.builtin "object.__class__") = some true)
     (hm : PySem.W.mroIn K C (.type "object") = some true) : TyOf K H (.ref a) (.ref C)
theorem isinst_ok {x : V} {u t : Value} (I : Inv X pins σ H s) (rx : RelV x u) (ty : TyOf X.K H x t) (e : PySem.W.kitOne X.K t c = some b) (h : ∀ tk, Q (.bool b) { s with toks := tk }) :
   wpAny (model X.prog X.w) A (call (.builtin "isinstance") [u, c]) Q E s := by
 cases ty with
 | non => cases (show u = Value.none from rx); exact PySem.W.kia_one PySem.W.kitx_none I.kIn True.intro e (fun z => nomatch z) h
 | bl y => cases (show u = Value.bool y from rx); exact PySem.W.kia_one PySem.W.kitx_bool I.kIn True.intro e (fun z => nomatch z) h
 | int i => obtain ⟨t, q⟩ := (show ∃ t, u = Value.int i t from rx); cases q; exact PySem.W.kia_one PySem.W.kitx_int I.kIn True.intro e (fun z => nomatch z) h
 | str y => obtain ⟨t, q⟩ := (show ∃ t, u = Value.str y t from rx); cases q; exact PySem.W.kia_one PySem.W.kitx_str I.kIn True.intro e (fun z => nomatch z) h
 | flt y => obtain ⟨t, q⟩ := (show ∃ t, u = Value.float y t from rx); cases q; exact PySem.W.kia_one PySem.W.kitx_float I.kIn True.intro e (fun z => nomatch z) h
 | @lst a xs ea =>
   cases (show u = Value.ref a from rx)
   obtain ⟨_, _, n, _, h1⟩ := (show ObjOk X.prog X.w H s.heap a (.lst xs) from I.hok a _ ea)
   exact PySem.W.kia_one PySem.W.kitx_list I.kIn ⟨_, h1, rfl⟩ e (fun z => nomatch z) h
 | @frz a ob xs ea =>
   cases (show u = Value.ref a from rx)
   obtain ⟨_, _, _, n, _, h1⟩ := (show ObjOk X.prog X.w H s.heap a (.frz ob (.lst xs)) from I.hok a _ ea)
   exact PySem.W.kia_one PySem.W.kitx_list I.kIn ⟨_, h1, rfl⟩ e (fun z => nomatch z) h
 | @tup a xs ea =>
   cases (show u = Value.ref a from rx)
   obtain ⟨_, _, _, p⟩ := (show ObjOk X.prog X.w H s.heap a (.tup xs) from I.hok a _ ea)
   obtain ⟨o, h1, h2, _⟩ := p
   exact PySem.W.kia_one PySem.W.kitx_tuple I.kIn ⟨o, h1, h2⟩ e (fun z => nomatch z) h
 | @dK a kvs ea =>
   cases (show u = Value.ref a from rx)
   obtain ⟨_, _, vs, _, p⟩ := (show ObjOk X.prog X.w H s.heap a (.dK kvs) from I.hok a _ ea)
   obtain ⟨o, es, ep, h1, h2, _⟩ := p
   exact PySem.W.kia_one PySem.W.kitx_dict I.kIn ⟨o, h1, h2.1⟩ e (fun z => nomatch z) h
 | @dT a kvs ea =>
   cases (show u = Value.ref a from rx)
   obtain ⟨_, _, xs, _, o, es, ep, h1, h2, _⟩ := (show ObjOk X.prog X.w H s.heap a (.dT kvs) from I.hok a _ ea)
   exact PySem.W.kia_one PySem.W.kitx_dict I.kIn ⟨o, h1, h2.1⟩ e (fun z => nomatch z) h
 | @ins a C dx fs ea cl ha hn htk hm =>
   cases (show u = Value.ref a from rx)
   obtain ⟨mA, O, _⟩ := ins_get I.hok ea
   obtain ⟨od, J, _⟩ := O.look
   exact PySem.W.kia_one (PySem.W.kitx_own (cl.get _) cl.hd ha hn htk hm) I.kIn J e (fun z => nomatch z) h
end
end L2

namespace L2
open PySem PySem.Spec PyProof.Rows
structure Room (k : Nat) (A : Around) : Prop where
 hd : A.handled = none
 dp : A.depth + 3 * k + 5 < recursionLimit
 un : A.units + 16 * k + 200 < cLine
theorem Room.mono {j k : Nat} {A : Around} (r : Room k A) (h : j ≤ k) : Room j A := ⟨r.hd, by have := r.dp; omega, by have := r.un; omega⟩
theorem Room.deeper {k : Nat} {A : Around} (r : Room (k + 1) A) (env : Env) : Room k (A.deeper env) :=
 ⟨r.hd, by have := r.dp; show A.depth + 1 + 3 * k + 5 < _; omega, by have := r.un; show A.units + 3 + 16 * k + 200 < _; omega⟩
theorem Room.in1 {k : Nat} {A : Around} (r : Room (k + 1) A) : Room k A.in1 :=
 ⟨r.hd, by have := r.dp; show A.depth + 3 * k + 5 < _; omega, by have := r.un; show A.units + 1 + 16 * k + 200 < _; omega⟩
theorem make_depth {A : Around} {C : Addr} {us : List Value} {kw : List (Str × Value)} : (A.under (.builtin "type.__call__" ⟨.ref C :: us, kw⟩)).depth = A.depth + 1 := by
 first | rfl | simp [Around.under, Code.weight, Code.isCreation, Code.isGuard, Code.isCaller, Code.frames, Code.isFrame, guardIds]
theorem make_units {A : Around} {C : Addr} {us : List Value} {kw : List (Str × Value)} : (A.under (.builtin "type.__call__" ⟨.ref C :: us, kw⟩)).units = A.units + 1 := by
 first | rfl | simp [Around.under, Code.cUnits, Code.frames, Code.isFrame]
theorem Room.make {k : Nat} {A : Around} (r : Room (k + 1) A) (C : Addr) (us : List Value) (kw : List (Str × Value)) : Room k (A.under (.builtin "type.__call__" ⟨.ref C :: us, kw⟩)) :=
 ⟨r.hd, by have := r.dp; rw [make_depth]; omega, by have := r.un; rw [make_units]; omega⟩
theorem Room.depth {k : Nat} {A : Around} (r : Room k A) : A.depth < recursionLimit := by have := r.dp; omega
theorem Room.units {k : Nat} {A : Around} (r : Room k A) : A.units + 64 < cLine := by have := r.un; omega
theorem Room.units0 {k : Nat} {A : Around} (r : Room k A) : A.units < cLine := by have := r.un; omega
def tNil : TA := fun _ H Q => Q [] H
def tCons (ta : TE) (tr : TA) : TA := fun σ H Q => ta σ H fun x H1 => tr σ H1 fun xs H2 => Q (x :: xs) H2
section
variable {X : Cx} {e : Expr} {es : List Expr} {te : TE} {t : TA} {pos : Pos}
theorem pa_nil : PA X [] tNil := fun _ _ _ _ H Q I h => Calls.spliced_nil ⟨[], H, I, .nil, h⟩
theorem pa_cons (ha : PE X e te) (hr : PA X es t) (hs : starEach (e :: es) X.env = (false, eval e X.env) :: starEach es X.env := by rfl) : PA X (e :: es) (tCons te t) := by
 intro pos pins s σ H Q I h
 rw [hs]
 show wpAny _ _ (spliced ((false, eval e X.env) :: backTo pos (starEach es X.env))) _ _ s
 refine Calls.spliced_cons (thn (ha pins s σ H _ I h) fun u s1 ⟨x, H1, I1, r1, q1⟩ => ?_)
 exact thn (hr pos pins s1 σ H1 _ I1 q1) fun us s2 ⟨xs, H2, I2, r2, q2⟩ => ⟨x :: xs, H2, I2, .cons r1 r2, q2⟩
def tTup (t : TA) : TE := fun σ H Q => t σ H fun xs H1 => xs.length ≤ sizeLine ∧ ∀ p, H1 p = none → Q (.ref p) (upd H1 p (.tup xs))
def tLst (t : TA) : TE := fun σ H Q => t σ H fun xs H1 => xs.length ≤ sizeLine ∧ ∀ p, H1 p = none → Q (.ref p) (upd H1 p (.lst xs))
theorem pe_tup {x1} (h : PA X es t) : PE X (.Tuple es x1 pos) (tTup t) := by
 intro pins s σ H Q I hq
 refine wpAny_Tuple_spliced (thn (h pos pins s σ H _ I hq) fun us s1 ⟨xs, H1, I1, r, z, q⟩ => ⟨by rw [← r.length]; exact z, ?_⟩)
 have hf : H1 s1.heap.objs.size = none := I1.hok.fresh (Nat.le_refl _)
 refine ⟨.ref s1.heap.objs.size, upd H1 s1.heap.objs.size (.tup xs), I1.laid (t' := s1.toks) (fun b u e => Heap.get?_push_of_some _ e) (Nat.le_refl _) ?_, rfl, q _ hf⟩
 exact ⟨z, us, r, ⟨_, Heap.get?_push_size _ rfl, rfl, _, rfl⟩⟩
theorem pe_lst (h : PA X es t) : PE X (.List es pos) (tLst t) := by
 intro pins s σ H Q I hq
 refine wpAny_List_spliced (thn (h pos pins s σ H _ I hq) fun us s1 ⟨xs, H1, I1, r, z, q⟩ => ⟨by rw [← r.length]; exact z, ?_⟩)
 have hf : H1 s1.heap.objs.size = none := I1.hok.fresh (Nat.le_refl _)
 refine ⟨.ref s1.heap.objs.size, upd H1 s1.heap.objs.size (.lst xs), I1.laid (t' := s1.toks) (fun b u e => Heap.get?_push_of_some _ e) (Nat.le_refl _) ?_, rfl, q _ hf⟩
 exact ⟨z, us, 0, r, Heap.get?_push_size _ rfl⟩
end
abbrev Sp := List V → Hp → VK → XK → Prop
abbrev CXT := List Env → Hp → Shared → XK → Value → Shared → Prop
structure Env0 (P : Program) (w : World) (K : PySem.W.Frag) (mg : Str → Option Value) (base : Heap) (A : Around) (outer : List Env) (s : Shared) (H : Hp) : Prop where
 frames : A.frames = some outer
 mod : Mod K mg base
 bs : ∀ b o, base.get? b = some o → s.heap.get? b = some o ∧ H b = none
 bsz : base.objs.size ≤ s.heap.objs.size
 funs : s.heap.FunFrames base outer
 frf : ∀ b ∈ frs outer, H b = none
 hok : HOk P w H s.heap
 bare : AllBare s.gens
def CE (outer : List Env) (P : Program) (w : World) (H : Hp) (s : Shared) (Q : VK) (u : Value) (s' : Shared) : Prop :=
 ∃ v H', s'.os = s.os ∧ AllBare s'.gens ∧ Un (frs outer) [] H H' s.heap s'.heap ∧ HOk P w H' s'.heap ∧ RelV v u ∧ Q v H'
def CR (CX : CXT) (outer : List Env) (P : Program) (w : World) (H : Hp) (s : Shared) (Q : VK) (E : XK) (r : Result) (s' : Shared) : Prop :=
 match r with
 | .ok (.ret u) => CE outer P w H s Q u s'
 | .ok _ => False
 | .error e => CX outer H s E e s'
structure FnOk (P : Program) (w : World) (K : PySem.W.Frag) (mg : Str → Option Value) (base : Heap) (CX : CXT) (k : Nat) (f : Addr) (fd : FuncData) (ps : List Str) (sp : Sp) : Prop where
 len : ∀ vs H Q E, sp vs H Q E → vs.length = ps.length
 run : ∀ (A : Around) (outer : List Env) (s : Shared) (H : Hp) (args : Args) (us : List Value) (vs : List V) (Q : VK) (E : XK), Room k A → Env0 P w K mg base A outer s H → BindsTo s fd args (ps.zip us) → Vals vs us → sp vs H Q E →
   codeAny (model P w) A (.call (.ref f) args) (CR CX outer P w H s Q E) s
theorem FnOk.mono {P : Program} {w : World} {K : PySem.W.Frag} {mg : Str → Option Value} {base : Heap} {CX : CXT} {j k : Nat} {f : Addr} {fd : FuncData} {ps : List Str} {sp : Sp} (F : FnOk P w K mg base CX j f fd ps sp) (h : j ≤ k) :
 FnOk P w K mg base CX k f fd ps sp := ⟨F.len, fun A outer s H args us vs Q E hr => F.run A outer s H args us vs Q E (hr.mono h)⟩
theorem FnOk.imp {P : Program} {w : World} {K : PySem.W.Frag} {mg : Str → Option Value} {base : Heap} {CX : CXT} {k : Nat} {f : Addr} {fd : FuncData} {ps : List Str} {sp sp' : Sp} (F : FnOk P w K mg base CX k f fd ps sp)
   (h : ∀ vs H Q E, sp' vs H Q E → sp vs H Q E) : FnOk P w K mg base CX k f fd ps sp' :=
 ⟨fun vs H Q E q => F.len vs H Q E (h _ _ _ _ q), fun A outer s H args us vs Q E hr he hb hv hs => F.run A outer s H args us vs Q E hr he hb hv (h _ _ _ _ hs)⟩

theorem Env0.make {P : Program} {w : World} {K : PySem.W.Frag} {mg : Str → Option Value} {base : Heap} {A : Around} {outer : List Env} {s : Shared} {H : Hp} (e : Env0 P w K mg base A outer s H) (C : Addr) (us : List Value) (kw : List (Str × Value)) :
 Env0 P w K mg base (A.under (.builtin "type.__call__" ⟨.ref C :: us, kw⟩)) outer s H := ⟨by first | exact e.frames | (simpa [Around.under, Code.envs, Code.isFrame, pushEnvs] using e.frames), e.mod, e.bs, e.bsz, e.funs, e.frf, e.hok, e.bare⟩
theorem Env0.in1 {P : Program} {w : World} {K : PySem.W.Frag} {mg : Str → Option Value} {base : Heap} {A : Around} {outer : List Env} {s : Shared} {H : Hp} (e : Env0 P w K mg base A outer s H) :
 Env0 P w K mg base A.in1 outer s H := ⟨e.frames, e.mod, e.bs, e.bsz, e.funs, e.frf, e.hok, e.bare⟩

section
variable {X : Cx} {pins : List (Addr × Obj)} {σ : St} {H : Hp} {s s' : Shared}
theorem Inv.env0 (I : Inv X pins σ H s) : Env0 X.prog X.w X.K X.mg X.base X.A X.stack s H :=
 ⟨I.ok.frames, I.ok.mod, I.bs, Nat.le_trans I.ok.bsz I.sz, I.stack, I.stkFree, I.hok, I.bare⟩
theorem Inv.after {Q : VK} {u : Value} (I : Inv X pins σ H s) (h : CE X.stack X.prog X.w H s Q u s') : EP X pins σ Q u s' := by
 obtain ⟨v, H', os, bare, un, hok, r, q⟩ := h
 obtain ⟨hh, g, d, t, os'⟩ := s'
 obtain rfl : os' = s.os := os
 exact ⟨v, H', I.call (h' := hh) (g' := g) (d' := d) (t' := t) (ch := []) un hok bare (fun b z => absurd z (by simp)), r, q⟩
end
def tCall (sp : Sp) (dvs : List V) (E : XK) (t : TA) : TE := fun σ H Q => t σ H fun vs H1 => sp (vs ++ dvs) H1 Q E
def tMeth (C : Addr) (m : Str) (sp : Sp) (dvs : List V) (E : XK) (ta : TE) (t : TA) : TE := fun σ H Q => ta σ H fun x H1 => ∃ a dx fs, x = .ref a ∧ H1 a = some (.ins C dx fs) ∧ fs.lookup m = none ∧
 t σ H1 fun vs H2 => sp (x :: (vs ++ dvs)) H2 Q E
def tMake (C : Addr) (sp : Sp) (dvs : List V) (E : XK) (t : TA) : TE := fun σ H Q => t σ H fun vs H1 => ∀ x dx, H1 x = none → H1 dx = none → dx ≠ x →
 sp (.ref x :: (vs ++ dvs)) (upd (upd H1 dx (.own x)) x (.ins C dx [])) (fun v H2 => v = .non ∧ Q (.ref x) H2) E
def Binds (K : PySem.W.Frag) (fd : FuncData) (ps : List Str) (ds : List Value) : Prop :=
 ∀ (s : Shared) (us : List Value), K.In s.heap → (us ++ ds).length = ps.length → BindsTo s fd ⟨us, []⟩ (ps.zip (us ++ ds))
theorem Binds.all {K : PySem.W.Frag} {fd : FuncData} {ps : List Str} (h : ∀ us : List Value, us.length = ps.length → bindArgs fd ⟨us, []⟩ = pure (ps.zip us)) : Binds K fd ps [] := fun s us _ hl => by
 rw [List.append_nil] at hl ⊢
 exact .of_eq (h us hl)
def Passes (CX : CXT) (X : Cx) (E : XK) : Prop := ∀ (pins : List (Addr × Obj)) (σ : St) (H : Hp) (s : Shared) (e : Value) (s' : Shared), Inv X pins σ H s → CX X.stack H s E e s' → X.xe e s'

section
variable {X : Cx} {CX : CXT} {k : Nat} {f C : Addr} {fd : FuncData} {ps : List Str} {sp : Sp} {dvs : List V} {ds : List Value} {E : XK} {x m : Str} {p pos apos : Pos} {e o : Expr} {es : List Expr} {ta : TE} {t : TA}
theorem run_fn {pins : List (Addr × Obj)} {σ : St} {H : Hp} {s : Shared} {Q : VK} {us : List Value} {vs : List V} (F : FnOk X.prog X.w X.K X.mg X.base CX k f fd ps sp) (hr : Room k X.A) (hb : Binds X.K fd ps ds) (hd : Vals dvs ds) (hx : Passes CX X E)
   (I : Inv X pins σ H s) (r : Vals vs us) (h : sp (vs ++ dvs) H Q E) : wpAny (model X.prog X.w) X.A (call (.ref f) us) (EP X pins σ Q) X.xe s := by
 have r2 : Vals (vs ++ dvs) (us ++ ds) := r.append hd
 have hl : (us ++ ds).length = ps.length := by rw [← r2.length]; exact F.len _ _ _ _ h
 refine wpAny_call (codeAny_mono (F.run X.A X.stack s H ⟨us, []⟩ (us ++ ds) (vs ++ dvs) Q E hr I.env0 (hb s us I.kIn hl) r2 h) fun r s' hq => ?_)
 cases r with
 | error e => exact hx pins σ H s e s' I hq
 | ok fl =>
   cases fl with
   | ret u => exact I.after hq
   | next => exact False.elim hq
   | brk => exact False.elim hq
   | cont => exact False.elim hq

theorem pe_call (F : FnOk X.prog X.w X.K X.mg X.base CX k f fd ps sp) (hr : Room k X.A) (hg : Gl X x) (hm : X.mg x = some (.ref f)) (hk : PySem.W.keepIn X.K (.ref f) = true) (hb : Binds X.K fd ps ds) (hd : Vals dvs ds) (hx : Passes CX X E)
   (ha : PA X (e :: es) t) (hdb : (x == ("__debug__" : Str)) = false := by decide) (he : starEach (e :: es) X.env = (false, eval e X.env) :: starEach es X.env := by rfl) (hpl : (backTo pos (starEach es X.env)).any (·.1) = false := by rfl) :
   PE X (.Call (.Name x p) (e :: es) [] pos) (tCall sp dvs E t) := by
 intro pins s σ H Q I h
 refine wpAny_Call_Name_kw (ld_glob I hg hm ?_ hdb)
 refine PySem.W.callWith_K (h₀ := X.base) I.ok.mod.kin hk (thn (ha pos pins s σ H _ I h) fun us s1 ⟨vs, H1, I1, r, q⟩ => ⟨I1.kIn, ?_⟩) he hpl
 exact run_fn F hr hb hd hx I1 r q
theorem pe_meth {pl : Sem Bool} (he : PE X o ta) (c : Cls X.K C) (hm : Meth X.K C m f) (F : FnOk X.prog X.w X.K X.mg X.base CX k f fd ps sp) (hr : Room k X.A) (hb : Binds X.K fd ps ds) (hd : Vals dvs ds) (hx : Passes CX X E) (ha : PA X (e :: es) t)
   (hst : starEach (e :: es) X.env = (false, eval e X.env) :: starEach es X.env := by rfl) (hpl : (backTo pos (starEach es X.env)).any (·.1) = false := by rfl)
   (ht : eval (.Call (.Attribute o m apos) (e :: es) [] pos) X.env = (do
     let ov ← eval o X.env
     standAt apos.atName
     let (f, first) ← holding [ov] (getMethod ov m pl)
     callWith pos f first (backTo pos (starEach (e :: es) X.env)) (backToKw pos (keywordEach [] X.env))) := by rfl) :
   PE X (.Call (.Attribute o m apos) (e :: es) [] pos) (tMeth C m sp dvs E ta t) := by
 intro pins s σ H Q I h
 refine PySem.W.methodCall_KW (pl := pl) (thn (he pins s σ H _ I h) fun u s1 ⟨x, H1, I1, rx, a, dx, fs, ex, ea, l, q⟩ => ?_) ht
 subst ex
 obtain rfl : u = Value.ref a := rx
 refine getmeth_ok I1 ea c hm l ?_
 refine PySem.W.callWith_K (first := [.ref a]) (h₀ := X.base) I.ok.mod.kin hm.kp (thn (ha pos pins s1 σ H1 _ I1 q) fun us s2 ⟨vs, H2, I2, r, q2⟩ => ⟨I2.kIn, ?_⟩) hst hpl
 exact run_fn (us := .ref a :: us) (vs := .ref a :: vs) F hr hb hd hx I2 (.cons rfl r) q2
theorem pe_meth0 {pl : Sem Bool} (he : PE X o ta) (c : Cls X.K C) (hm : Meth X.K C m f) (F : FnOk X.prog X.w X.K X.mg X.base CX k f fd ps sp) (hr : Room k X.A) (hb : Binds X.K fd ps ds) (hd : Vals dvs ds) (hx : Passes CX X E)
   (ht : eval (.Call (.Attribute o m apos) [] [] pos) X.env = (do
     let ov ← eval o X.env
     standAt apos.atName
     let (f, first) ← holding [ov] (getMethod ov m pl)
     callWith pos f first (backTo pos (starEach [] X.env)) (backToKw pos (keywordEach [] X.env))) := by rfl) :
   PE X (.Call (.Attribute o m apos) [] [] pos) (tMeth C m sp dvs E ta tNil) := by
 intro pins s σ H Q I h
 refine PySem.W.methodCall_KW (pl := pl) (thn (he pins s σ H _ I h) fun u s1 ⟨x, H1, I1, rx, a, dx, fs, ex, ea, l, q⟩ => ?_) ht
 subst ex
 obtain rfl : u = Value.ref a := rx
 refine getmeth_ok I1 ea c hm l ?_
 exact PySem.W.callWith_K0 (first := [.ref a]) I1.kIn hm.kp (run_fn (us := [.ref a]) (vs := [.ref a]) F hr hb hd hx I1 (.cons rfl .nil) q)
structure Mk (K : PySem.W.Frag) (C f : Addr) : Prop where
 makes : PySem.W.makesIn K C = true
 init : PySem.W.findIn K (.ref C) "__init__" = some (some (.ref f))
 fn : PySem.W.isFn K (.ref f) = true
 kp : PySem.W.keepIn K (.ref C) = true

theorem run_make {pins : List (Addr × Obj)} {σ : St} {H : Hp} {s : Shared} {Q : VK} {us : List Value} {vs : List V} (M : Mk X.K C f) (F : FnOk X.prog X.w X.K X.mg X.base CX k f fd ps sp) (hr : Room (k + 1) X.A) (hb : Binds X.K fd ps ds) (hd : Vals dvs ds)
   (hx : Passes CX X E) (I : Inv X pins σ H s) (r : Vals vs us)
   (h : ∀ x dx, H x = none → H dx = none → dx ≠ x → sp (.ref x :: (vs ++ dvs)) (upd (upd H dx (.own x)) x (.ins C dx [])) (fun v H2 => v = .non ∧ Q (.ref x) H2) E) :
   wpAny (model X.prog X.w) X.A (call (.ref C) us) (EP X pins σ Q) X.xe s := by
 have hq := h (s.heap.objs.size + 1) s.heap.objs.size (I.hok.fresh (Nat.le_succ _)) (I.hok.fresh (Nat.le_refl _)) (Nat.ne_of_lt (Nat.lt_succ_self _))
 have I2 := Inv.made (C := C) I
 have r2 : Vals (V.ref (s.heap.objs.size + 1) :: (vs ++ dvs)) (Value.ref (s.heap.objs.size + 1) :: (us ++ ds)) := .cons rfl (r.append hd)
 have hl : (Value.ref (s.heap.objs.size + 1) :: us ++ ds).length = ps.length := by
   have e := r2.length
   rw [F.len _ _ _ _ hq] at e
   exact e.symm
 refine wpAny_call (make_map (f := f) I.kIn M.makes M.init (beq_iff_eq.mp M.fn) (codeAny_mono (F.run _ X.stack _ _ ⟨Value.ref (s.heap.objs.size + 1) :: us, []⟩ (Value.ref (s.heap.objs.size + 1) :: (us ++ ds)) _ _ E (hr.make C us [])
   (I2.env0.make C us []) (hb _ (Value.ref (s.heap.objs.size + 1) :: us) I2.kIn hl) r2 hq) fun r s' hq' => ?_))
 cases r with
 | error e => exact hx pins σ _ _ e s' I2 hq'
 | ok fl =>
   cases fl with
   | ret u =>
     obtain ⟨v, H', I3, rv, ev, q3⟩ := I2.after hq'
     subst ev
     exact ⟨rv, ⟨V.ref (s.heap.objs.size + 1), H', I3, rfl, q3⟩⟩
   | next => exact False.elim hq'
   | brk => exact False.elim hq'
   | cont => exact False.elim hq'
theorem pe_make (M : Mk X.K C f) (F : FnOk X.prog X.w X.K X.mg X.base CX k f fd ps sp) (hr : Room (k + 1) X.A) (hg : Gl X x) (hm : X.mg x = some (.ref C)) (hb : Binds X.K fd ps ds) (hd : Vals dvs ds) (hx : Passes CX X E)
   (ha : PA X (e :: es) t) (hdb : (x == ("__debug__" : Str)) = false := by decide) (he : starEach (e :: es) X.env = (false, eval e X.env) :: starEach es X.env := by rfl) (hpl : (backTo pos (starEach es X.env)).any (·.1) = false := by rfl) :
   PE X (.Call (.Name x p) (e :: es) [] pos) (tMake C sp dvs E t) := by
 intro pins s σ H Q I h
 refine wpAny_Call_Name_kw (ld_glob I hg hm ?_ hdb)
 refine PySem.W.callWith_K (h₀ := X.base) I.ok.mod.kin M.kp (thn (ha pos pins s σ H _ I h) fun us s1 ⟨vs, H1, I1, r, q⟩ => ⟨I1.kIn, ?_⟩) he hpl
 exact run_make M F hr hb hd hx I1 r q
end
section
variable {X : Cx} {CX : CXT} {k : Nat} {f C : Addr} {fd : FuncData} {ps ks : List Str} {sp : Sp} {E : XK} {x m : Str} {p pos apos kpos : Pos} {e o : Expr} {es : List Expr} {kws : List Keyword} {te ta : TE} {t tk : TA} {nm : Option Str}
variable {g : List Value → List Value → List Value} {gV : List V → List V → List V}
end
structure FnScope (N P : List Str) (sc : Scope) : Prop where
 kind : sc.kind = .function
 co : sc.isCoroutine = false
 gen : sc.isGenerator = false
 nd : N.Nodup
 pre : N.take P.length = P
 par : ∀ x ∈ P, sc.names.lookup x = some .local ∨ sc.names.lookup x = some .cell
 nofree : ∀ y ∈ sc.names, y.2 ≠ .free

theorem bindL_out {kindOf : Str → Option NameKind} {x : Str} : ∀ {binds : List (Str × Value)} {m : Str → Option Value}, (∀ v, (x, v) ∉ binds) → bindL kindOf binds m x = m x
 | [], _, _ => rfl
 | (n, v) :: r, m, h => by
   unfold bindL
   rw [bindL_out fun w hw => h w (List.mem_cons_of_mem _ hw)]
   split
   · have : x ≠ n := by rintro rfl; exact h v List.mem_cons_self
     simp [this]
   · rfl
theorem bindC_out {kindOf : Str → Option NameKind} {x : Str} : ∀ {binds : List (Str × Value)} {m : Str → Option Value}, (∀ v, (x, v) ∉ binds) → bindC kindOf binds m x = m x
 | [], _, _ => rfl
 | (n, v) :: r, m, h => by
   unfold bindC
   rw [bindC_out fun w hw => h w (List.mem_cons_of_mem _ hw)]
   split
   · rfl
   · have : x ≠ n := by rintro rfl; exact h v List.mem_cons_self
     simp [this]
theorem bindL_get {kindOf : Str → Option NameKind} {x : Str} {v : Value} : ∀ {P : List Str} {vs : List Value} {i : Nat} {m : Str → Option Value}, P.Nodup → P[i]? = some x → vs[i]? = some v → kindOf x = some .local →
   bindL kindOf (P.zip vs) m x = some v
 | [], _, _, _, _, h, _, _ => by simp at h
 | _ :: _, [], _, _, _, _, h, _ => by simp at h
 | p :: P, w :: vs, 0, m, nd, h1, h2, hk => by
   simp at h1 h2; subst h1; subst h2
   show bindL kindOf ((p, w) :: P.zip vs) m p = _
   unfold bindL
   rw [bindL_out fun v hv => (List.nodup_cons.mp nd).1 (List.of_mem_zip hv).1, if_pos hk]
   simp
 | p :: P, w :: vs, i + 1, m, nd, h1, h2, hk => by
   show bindL kindOf ((p, w) :: P.zip vs) m x = _
   unfold bindL
   exact bindL_get (i := i) (List.nodup_cons.mp nd).2 (by simpa using h1) (by simpa using h2) hk
theorem bindC_get {kindOf : Str → Option NameKind} {x : Str} {v : Value} : ∀ {P : List Str} {vs : List Value} {i : Nat} {m : Str → Option Value}, P.Nodup → P[i]? = some x → vs[i]? = some v → kindOf x ≠ some .local →
   bindC kindOf (P.zip vs) m x = some v
 | [], _, _, _, _, h, _, _ => by simp at h
 | _ :: _, [], _, _, _, _, h, _ => by simp at h
 | p :: P, w :: vs, 0, m, nd, h1, h2, hk => by
   simp at h1 h2; subst h1; subst h2
   show bindC kindOf ((p, w) :: P.zip vs) m p = _
   unfold bindC
   rw [bindC_out fun v hv => (List.nodup_cons.mp nd).1 (List.of_mem_zip hv).1, if_neg hk]
   simp
 | p :: P, w :: vs, i + 1, m, nd, h1, h2, hk => by
   show bindC kindOf ((p, w) :: P.zip vs) m x = _
   unfold bindC
   exact bindC_get (i := i) (List.nodup_cons.mp nd).2 (by simpa using h1) (by simpa using h2) hk
def start (N : List Str) (vs : List V) : St := vs.map some ++ List.replicate (N.length - vs.length) none
def cxOf (CX : CXT) (P : Program) (w : World) (K : PySem.W.Frag) (mg : Str → Option Value) (base : Heap) (N : List Str) (qual : Str) (scope : Scope) (f : Addr) (cd : Value) (A : Around) (outer : List Env) (s : Shared) (H : Hp) (E : XK) : Cx where
 prog := P
 w := w
 K := K
 mg := mg
 base := base
 A := A.deeper (envOfC qual scope s.heap.objs.size f cd)
 N := N
 s₀ := s
 H₀ := H
 env := envOfC qual scope s.heap.objs.size f cd
 outer := outer
 stack := envOfC qual scope s.heap.objs.size f cd :: outer
 ex := []
 calm := true
 fn := fun _ => true
 pn := []
 xe := fun e s' => wpAny (model P w) (A.deeper (envOfC qual scope s.heap.objs.size f cd)) (leaving (envOfC qual scope s.heap.objs.size f cd) e) (fun _ s'' => CX outer H s E e s'') (fun e' s'' => CX outer H s E e' s'') s'

theorem cell_has {sc : Scope} {n : Nat} {x : Str} (h : sc.names.lookup x = some .cell) : ∃ c, (cellsFrom n sc.names []).lookup x = some c := by
 have q := PySem.W.cellsFrom_some sc.names n [] (.inl h)
 exact Option.isSome_iff_exists.mp q

theorem inv_start {CX : CXT} {P : Program} {w : World} {K : PySem.W.Frag} {mg : Str → Option Value} {base : Heap} {N ps : List Str} {qual : Str} {scope : Scope} {f : Addr} {cd : Value} {A : Around} {outer : List Env} {s s1 : Shared} {H : Hp} {E : XK} {us : List Value} {vs : List V}
   (S : FnScope N ps scope) (hd : A.handled = none) (e0 : Env0 P w K mg base A outer s H) (hl : vs.length = ps.length) (r : Vals vs us)
   (x : InCallC s s.heap.objs.size (bindL (envOfC qual scope s.heap.objs.size f cd).kindOf (ps.zip us) fun _ => none) (cellsFrom (s.heap.objs.size + 1) scope.names []) (bindC (envOfC qual scope s.heap.objs.size f cd).kindOf (ps.zip us) fun _ => none) s1) :
   Inv (cxOf CX P w K mg base N qual scope f cd A outer s H E) [] (start N vs) H s1 := by
 have hpl : ps.length ≤ N.length := by have := congrArg List.length S.pre; rw [List.length_take] at this; omega
 obtain ⟨h1, tk, rfl, hk⟩ := x.done
 have noA : ∀ b : Addr, b ∉ (cxOf CX P w K mg base N qual scope f cd A outer s H E).ex := fun b z => absurd (show b ∈ ([] : List Addr) from z) (by simp)
 refine ⟨⟨e0.mod, S.kind, rfl, rfl, Nat.le_refl _, fun y z c h1 h2 => ?_, fun y hy => ?_, fun y c _ h => ?_, fun _ => hd, Around.frames_deeper e0.frames, .inr ⟨rfl, rfl⟩, fun b z => absurd z (noA b), e0.bs, e0.bsz, fun b _ _ => noA b, fun b z => absurd z (noA b), e0.funs, e0.frf⟩,
   rfl, e0.bare, Un.kept hk, ⟨_, x.toInCall.ns, fun i y v h1 h2 h3 => ?_⟩, fun y c h => ⟨_, x.cell y c h⟩, e0.hok.fresh (Nat.le_refl _), fun y c h => ?_, fun p hp => absurd (show p ∈ ([] : List (Addr × Obj)) from hp) (by simp), e0.hok.kept hk, ?_⟩
 · exact name_of_addr x.apart (PySem.mem_of_lookup h1) (PySem.mem_of_lookup h2)
 · have hy : scope.names.lookup y = some .cell ∨ scope.names.lookup y = some .free := hy
   rcases hy with hy | hy
   · exact cell_has hy
   · exact absurd rfl (S.nofree _ (PySem.mem_of_lookup hy))
 · exact Nat.le_of_lt (x.above y c (PySem.mem_of_lookup h))
 · have hi : i < vs.length := by
     unfold start at h2
     by_cases hi : i < vs.length
     · exact hi
     · rw [List.getElem?_append_right (by simpa using hi)] at h2
       rw [List.getElem?_replicate] at h2
       split at h2 <;> cases h2
   have ha : vs[i]? = some v := by
     unfold start at h2
     rw [List.getElem?_append_left (by simpa using hi), List.getElem?_map] at h2
     cases e : vs[i]? with
     | none => rw [e] at h2; cases h2
     | some a => rw [e] at h2; cases h2; rfl
   obtain ⟨u, hu, rv⟩ := r.get ha
   have hp : ps[i]? = some y := by
     rw [← S.pre, List.getElem?_take_of_lt (by omega)]; exact h1
   have ndP : ps.Nodup := by rw [← S.pre]; exact S.nd.sublist (List.take_sublist _ _)
   refine ⟨u, rv, ?_⟩
   rcases S.par y (List.mem_of_getElem? hp) with k | k
   · exact .inl ⟨k, bindL_get ndP hp hu k⟩
   · obtain ⟨c, e⟩ := cell_has (n := s.heap.objs.size + 1) k
     refine .inr ⟨.inl k, c, e, ?_⟩
     have q := x.cell y c e
     rw [bindC_get ndP hp hu (by show scope.names.lookup y ≠ _; rw [k]; decide)] at q
     exact q
 · exact e0.hok.fresh (Nat.le_of_lt (x.above y c (PySem.mem_of_lookup h)))
 · unfold start
   show _ = N.length
   rw [List.length_append, List.length_map, List.length_replicate]
   omega
theorem fn_of {CX : CXT} {P : Program} {w : World} {K : PySem.W.Frag} {mg : Str → Option Value} {base : Heap} {k : Nat} {f : Addr} {name qual : Str} {params : Arguments} {body : List Stmt} {scope : Scope} {dV kV doc pm cdv ct oc : Value} {an od : Option Addr}
   {osl : Array (Option Value)} {N ps : List Str} {sp : Sp} (lk : K.lookup f = some ⟨oc, od, .func (PySem.W.fnOf name qual params body scope dV kV doc pm an cdv ct), osl⟩) (hcd : PySem.W.codeIn K cdv qual = true) (S : FnScope N ps scope)
   (len : ∀ vs H Q E, sp vs H Q E → vs.length = ps.length)
   (hbody : ∀ (A : Around) (outer : List Env) (s : Shared) (H : Hp) (vs : List V) (Q : VK) (E : XK), Room k (A.deeper (envOfC qual scope s.heap.objs.size f cdv)) → sp vs H Q E →
     ∃ t, PSs (cxOf CX P w K mg base N qual scope f cdv A outer s H E) body t ∧ t { nx := fun _ H' => Q .non H', rt := Q } (start N vs) H) :
   FnOk P w K mg base CX (k + 1) f (PySem.W.fnOf name qual params body scope dV kV doc pm an cdv ct) ps sp := by
 refine ⟨len, fun A outer s H args us vs Q E hr e0 hb r hsp => ?_⟩
 have hl := len _ _ _ _ hsp
 have KX : K.In s.heap := e0.mod.kin.keeps fun b o e => (e0.bs b o e).1
 have lim : s.heap.NoLimit := e0.mod.nolimit.keeps fun b o e => (e0.bs b o e).1
 have hkind : ∀ y ∈ ps.zip us, scope.names.lookup y.1 = some .local ∨ (scope.names.lookup y.1 = some .cell ∧ ((cellsFrom (s.heap.objs.size + 1) scope.names []).lookup y.1).isSome = true) := fun ⟨n, v⟩ hy => by
   rcases S.par n (List.of_mem_zip hy).1 with q | q
   · exact .inl q
   · exact .inr ⟨q, PySem.W.cellsFrom_some _ _ _ (.inl q)⟩
 refine codeAny_call_function hr.depth (KX _ _ lk) rfl S.co S.gen rfl (PySem.W.codeRec_of KX hcd) (hb _ _ _ _ ?_)
 refine wpAny_newFunctionEnv_cells S.kind hkind fun env he s1 x => ?_
 subst he
 refine ⟨lim.keeps x.toInCall.keep, codeAny_func ?_⟩
 obtain ⟨t, ht, hq⟩ := hbody A outer s H vs Q E (hr.deeper _) hsp
 have I : Inv (cxOf CX P w K mg base N qual scope f cdv A outer s H E) [] (start N vs) H s1 := inv_start S hr.hd e0 hl r x
 refine wpAny_mono (ht [] s1 (start N vs) H _ I hq) (fun fl s' hs => ?_) fun e s' hs => hs
 have fin : ∀ {σ' : St} {H' : Hp} {v : V} {u : Value}, Inv (cxOf CX P w K mg base N qual scope f cdv A outer s H E) [] σ' H' s' → RelV v u → Q v H' → CE outer P w H s Q u s' :=
   fun {σ' H' v u} J rv q => ⟨v, H', J.os, J.bare, J.base, J.hok, rv, q⟩
 cases fl with
 | ret u =>
   obtain ⟨v, σ', H', J, rv, q⟩ := hs
   exact fin J rv q
 | next =>
   obtain ⟨σ', H', J, q⟩ := hs
   exact fin (v := V.non) (u := Value.none) J rfl q
 | brk =>
   obtain ⟨_, _, _, q⟩ := hs
   exact False.elim q
 | cont =>
   obtain ⟨_, _, _, q⟩ := hs
   exact False.elim q
end L2

namespace L2
open PySem PySem.Spec PyProof.Rows
section
variable {X : Cx} {x : Str} {p pos : Pos} {e : Expr} {es : List Expr} {t : TA} {id T : String} {r : List V → Hp → VK → Prop}

def tCB (r : List V → Hp → VK → Prop) (t : TA) : TE := fun σ H Q => t σ H fun vs H1 => r vs H1 Q
theorem pe_callB (hc : CallR X (.builtin id) r) (hg : Gl X x) (hm : X.mg x = none) (hv : bootBuiltins x = some (.builtin id)) (ha : PA X (e :: es) t) (hn : x ≠ "__name__" := by decide) (hdb : (x == ("__debug__" : Str)) = false := by decide)
   (he : starEach (e :: es) X.env = (false, eval e X.env) :: starEach es X.env := by rfl) (hpl : (backTo pos (starEach es X.env)).any (·.1) = false := by rfl) : PE X (.Call (.Name x p) (e :: es) [] pos) (tCB r t) := by
 intro pins s σ H Q I h
 refine wpAny_Call_Name_kw (ld_blt I hg hm hv ?_ hn hdb)
 exact PyProof.Rows.callWith_builtin1 (thn (ha pos pins s σ H _ I h) fun us s1 ⟨vs, H1, I1, r1, q1⟩ => hc pins s1 σ H1 vs us Q I1 r1 q1) he hpl
theorem pe_callTy (hc : CallR X (.type T) r) (hg : Gl X x) (hm : X.mg x = none) (hv : bootBuiltins x = some (.type T)) (ha : PA X (e :: es) t) (hn : x ≠ "__name__" := by decide) (hdb : (x == ("__debug__" : Str)) = false := by decide)
   (he : starEach (e :: es) X.env = (false, eval e X.env) :: starEach es X.env := by rfl) (hpl : (backTo pos (starEach es X.env)).any (·.1) = false := by rfl) : PE X (.Call (.Name x p) (e :: es) [] pos) (tCB r t) := by
 intro pins s σ H Q I h
 refine wpAny_Call_Name_kw (ld_blt I hg hm hv ?_ hn hdb)
 exact PyProof.Rows.callWith_type1 (thn (ha pos pins s σ H _ I h) fun us s1 ⟨vs, H1, I1, r1, q1⟩ => hc pins s1 σ H1 vs us Q I1 r1 q1) he hpl
end
end L2

namespace HT
open PySem PyProof.Rows
section
open PySem.SeqAt
open PySem.AutoSeq1 (wpAny_loadPart')
open PySem.MeetsSeq PySem.MeetsSeq2 PySem.MeetsSeq3

end

section
variable {prog : Program} {w : World} {A : Around} {E : Value → Shared → Prop} {s : Shared}

def sIx (n d : Nat) : Option Int → Nat
 | none => d
 | some v => if v < 0 then (v + (n : Int)).toNat else min v.toNat n
theorem sIx_none (n d : Nat) : sIx n d none = d := rfl
theorem sIx_nat (n d k : Nat) : sIx n d (some (k : Int)) = min k n := by
 show (if (k : Int) < 0 then ((k : Int) + (n : Int)).toNat else min (k : Int).toNat n) = min k n
 rw [if_neg (by omega), Int.toNat_natCast]
end
end HT

namespace L2
open PySem PySem.Spec PyProof.Rows
abbrev TO := St → Hp → (Option Int → Hp → Prop) → Prop
def PO (X : Cx) (e : Option Expr) (t : TO) : Prop :=
 ∀ (pins : List (Addr × Obj)) (s : Shared) (σ : St) (H : Hp) (Q : Option Int → Hp → Prop), Inv X pins σ H s → t σ H Q →
   wpAny (model X.prog X.w) X.A (evalPart e X.env) (fun u s' => ∃ o H', Inv X pins σ H' s' ∧ IsPart u o ∧ Q o H') X.xe s
def tNoPart : TO := fun _ H Q => Q none H
def tPart (t : TE) : TO := fun σ H Q => t σ H fun x H1 => ∃ i, x = .int i ∧ Q (some i) H1

section
variable {X : Cx} {e : Expr} {te : TE} {lo hi : Option Expr} {tl th : TO} {pos p2 : Pos}

theorem po_none : PO X none tNoPart := by
 intro pins s σ H Q I h
 rw [evalPart_none]
 exact wpAny_pure ⟨none, H, I, .none, h⟩
theorem po_some (h : PE X e te) : PO X (some e) (tPart te) := by
 intro pins s σ H Q I hw
 rw [evalPart_some]
 refine thn (h pins s σ H _ I hw) fun u s1 ⟨x, H1, I1, r1, q1⟩ => ?_
 obtain ⟨i, rfl, q⟩ := q1
 obtain ⟨t, rfl⟩ := r1
 exact ⟨some i, H1, I1, .int i t, q⟩
def SlR (X : Cx) (r : V → Option Int → Option Int → Hp → VK → Prop) : Prop :=
 ∀ (pins : List (Addr × Obj)) (s : Shared) (σ : St) (H : Hp) (x : V) (v vl vu : Value) (lo hi : Option Int) (sl : Addr) (Q : VK), Inv X pins σ H s → RelV x v → s.heap.IsSliceOf sl vl vu .none → IsPart vl lo → IsPart vu hi → r x lo hi H Q →
   ∃ T id, typeLookup (.type T) "__getitem__" = pure (some (.builtin id)) ∧ s.TypeIs v T ∧ wpAny (model X.prog X.w) X.A (getItem v (.ref sl)) (EP X pins σ Q) X.xe s
theorem SlR.or {r r' : V → Option Int → Option Int → Hp → VK → Prop} (h : SlR X r) (h' : SlR X r') : SlR X (fun x lo hi H Q => r x lo hi H Q ∨ r' x lo hi H Q) := by
 intro pins s σ H x v vl vu lo hi sl Q I rx hs pl pu q
 rcases q with q | q
 · exact h pins s σ H x v vl vu lo hi sl Q I rx hs pl pu q
 · exact h' pins s σ H x v vl vu lo hi sl Q I rx hs pl pu q
def tSl (r : V → Option Int → Option Int → Hp → VK → Prop) (te : TE) (tl th : TO) : TE := fun σ H Q => te σ H fun x H1 => tl σ H1 fun l H2 => th σ H2 fun u H3 => r x l u H3 Q
theorem pe_slice {r : V → Option Int → Option Int → Hp → VK → Prop} (hr : SlR X r) (he : PE X e te) (hl : PO X lo tl) (hu : PO X hi th) : PE X (.Subscript e (.Slice lo hi none p2) pos) (tSl r te tl th) := by
 intro pins s σ H Q I h
 refine Subscript_ (thn (he pins s σ H _ I h) fun v s1 ⟨x, H1, I1, r1, q1⟩ => ?_)
 refine wpAny_Slice (thn (hl pins s1 σ H1 _ I1 q1) fun vl s2 ⟨l, H2, I2, pl, q2⟩ => thn (hu pins s2 σ H2 _ I2 q2) fun vu s3 ⟨u, H3, I3, pu, q3⟩ => ?_)
 rw [evalPart_none]
 refine wpAny_pure ?_
 have I4 : Inv X pins σ H3 { s3 with heap := s3.heap.push { cls := .type "slice", data := .fields #[vl, vu, .none] } } := I3.kept (t' := s3.toks) fun b ob q => Heap.get?_push_of_some _ q
 obtain ⟨T, id, hT, ht, hg⟩ := hr pins { s3 with heap := s3.heap.push { cls := .type "slice", data := .fields #[vl, vu, .none] } } σ H3 x v vl vu l u s3.heap.objs.size Q I4 r1 (Heap.IsSliceOf.new ..) pl pu q3
 show wpAny (model X.prog X.w) X.A (subscriptTail e (.Slice lo hi none p2) v (.ref s3.heap.objs.size)) (EP X pins σ Q) X.xe { s3 with heap := s3.heap.push { cls := .type "slice", data := .fields #[vl, vu, .none] } }
 exact tail_any (ops := [.ref s3.heap.objs.size, v]) ht hT hg (by with_unfolding_all rfl)
def cutV (xs : List V) (lo hi : Option Int) : List V := (xs.drop (HT.sIx xs.length 0 lo)).take (HT.sIx xs.length xs.length hi - HT.sIx xs.length 0 lo)
theorem cutV_length (xs : List V) (lo hi : Option Int) : (cutV xs lo hi).length ≤ xs.length := by
 unfold cutV
 rw [List.length_take, List.length_drop]
 omega
end
end L2

namespace L2
open PySem PySem.Spec PyProof.Rows
def ixN (n : Nat) (i : Int) : Option Nat := if 0 ≤ i then (if i < n then some i.toNat else none) else if -(n : Int) ≤ i then some (i + n).toNat else none
def atI {α : Type} (xs : List α) (i : Int) : Option α := (ixN xs.length i).bind fun j => xs[j]?
theorem ixN_seq {n : Nat} {i : Int} {j : Nat} (h : ixN n i = some j) : seqIndex? i n = some j ∧ j < n ∧ -(n : Int) ≤ i ∧ i < n := by
 unfold ixN at h
 by_cases h0 : 0 ≤ i
 · rw [if_pos h0] at h
   by_cases h1 : i < n
   · rw [if_pos h1] at h
     have e : i.toNat = j := Option.some.inj h
     exact ⟨by rw [seqIndex_of h0 h1, e], by omega, by omega, h1⟩
   · rw [if_neg h1] at h; cases h
 · rw [if_neg h0] at h
   by_cases h1 : -(n : Int) ≤ i
   · rw [if_pos h1] at h
     have e : (i + n).toNat = j := Option.some.inj h
     exact ⟨by rw [seqIndex_neg (by omega) h1, e], by omega, h1, by omega⟩
   · rw [if_neg h1] at h; cases h
theorem atI_get {α : Type} {xs : List α} {i : Int} {v : α} (h : atI xs i = some v) : ∃ j, seqIndex? i xs.length = some j ∧ xs[j]? = some v ∧ j < xs.length ∧ -(xs.length : Int) ≤ i ∧ i < xs.length := by
 unfold atI at h
 cases e : ixN xs.length i with
 | none => rw [e] at h; cases h
 | some j =>
   rw [e] at h
   obtain ⟨h1, h2, h3, h4⟩ := ixN_seq e
   exact ⟨j, h1, h, h2, h3, h4⟩
theorem atI_nat {α : Type} {xs : List α} {j : Nat} {v : α} (h : xs[j]? = some v) : atI xs (j : Int) = some v := by
 have hj : j < xs.length := (List.getElem?_eq_some_iff.mp h).1
 have e : ixN xs.length (j : Int) = some j := by
   unfold ixN
   rw [if_pos (by omega), if_pos (by omega)]; simp
 unfold atI; rw [e]; exact h
def PlainIx (b : Expr) : Prop := ∀ o i, subscripted b false o i = operate [o, i] (getItem o i)
def IxR (X : Cx) (r : R2) : Prop :=
 ∀ (value slice : Expr) (pins : List (Addr × Obj)) (s : Shared) (σ : St) (H : Hp) (x y : V) (v u : Value) (Q : VK), Inv X pins σ H s → RelV x v → RelV y u → r x y H Q →
   subscripted slice false v u = operate [v, u] (getItem v u) → wpAny (model X.prog X.w) X.A (subscriptTail value slice v u) (EP X pins σ Q) X.xe s
def MtR (X : Cx) (id : String) (r : V → List V → Hp → VK → Prop) : Prop :=
 ∀ (pins : List (Addr × Obj)) (s : Shared) (σ : St) (H : Hp) (x : V) (xs : List V) (v : Value) (us : List Value) (Q : VK), Inv X pins σ H s → RelV x v → Vals xs us → r x xs H Q →
   wpAny (model X.prog X.w) X.A (call (.builtin id) (v :: us)) (EP X pins σ Q) X.xe s
section
variable {X : Cx} {a b : Expr} {ta tb : TE} {pos : Pos}
theorem IxR.or {r r' : R2} (h : IxR X r) (h' : IxR X r') : IxR X (fun x y H Q => r x y H Q ∨ r' x y H Q) := by
 intro value slice pins s σ H x y v u Q I rx ry q hs
 rcases q with q | q
 · exact h value slice pins s σ H x y v u Q I rx ry q hs
 · exact h' value slice pins s σ H x y v u Q I rx ry q hs
theorem MtR.or {id : String} {r r' : V → List V → Hp → VK → Prop} (h : MtR X id r) (h' : MtR X id r') : MtR X id (fun x xs H Q => r x xs H Q ∨ r' x xs H Q) := by
 intro pins s σ H x xs v us Q I rx rs q
 rcases q with q | q
 · exact h pins s σ H x xs v us Q I rx rs q
 · exact h' pins s σ H x xs v us Q I rx rs q
theorem pe_ix {r : R2} (hr : IxR X r) (ha : PE X a ta) (hb : PE X b tb) (hs : PlainIx b) : PE X (.Subscript a b pos) (tOp r ta tb) := by
 intro pins s σ H Q I h
 exact Subscript_ (binT ha hb I h fun v u s2 x y H2 I2 rx ry q => hr a b pins s2 σ H2 x y v u Q I2 rx ry q (hs _ _))

def rIxL (K : PySem.W.Frag) : R2 := fun x y H Q => ∃ p xs i v, x = .ref p ∧ y = .int i ∧ SqL K H p xs ∧ atI xs i = some v ∧ Q v H
def rIxT (K : PySem.W.Frag) : R2 := fun x y H Q => ∃ p xs i v, x = .ref p ∧ y = .int i ∧ SqT K H p xs ∧ atI xs i = some v ∧ Q v H
def rIxS : R2 := fun x y H Q => ∃ z i c, x = .str z ∧ y = .int i ∧ z.length ≤ sizeLine ∧ atI z.cps.toList i = some c ∧ Q (.str ⟨#[c]⟩) H
theorem ix_list : IxR X (rIxL X.K) := by
 intro value slice pins s σ H x y v u Q I rx ry h hs
 obtain ⟨p, xs, i, z, rfl, rfl, hq, he, q⟩ := h
 cases rx
 obtain ⟨t, rfl⟩ := ry
 obtain ⟨its, r, pl, hz⟩ := I.list hq
 obtain ⟨j, h1, h2, h3, h4, h5⟩ := atI_get he
 obtain ⟨w, ew, rw'⟩ := r.get h2
 have hl := r.length
 have hn := line63
 have fin : EP X pins σ Q w s := ⟨z, H, I, rw', q⟩
 by_cases h0 : 0 ≤ i
 · have hj : i.toNat = j := by
     rw [seqIndex_of h0 h5] at h1
     exact Option.some.inj h1
   exact item_listR pl.isList h0 (by omega) (by rw [hj]; simpa using ew) fin hs
 · have hj : (i + (its.toArray.size : Int)).toNat = j := by
     rw [seqIndex_neg (by omega) h4] at h1
     rw [List.size_toArray, ← hl]
     exact Option.some.inj h1
   exact subscriptTail_builtinR (x := w) pl.isList.typeIs slot_list_getitem.lookup
     (wpAny_getItem_list_neg (Q := fun r s' => r = w ∧ EP X pins σ Q r s') pl.isList (by omega) (by rw [List.size_toArray] <;> omega) (by omega) (by rw [hj]; simpa using ew) ⟨rfl, fin⟩) hs
theorem ix_tup : IxR X (rIxT X.K) := by
 intro value slice pins s σ H x y v u Q I rx ry h hs
 obtain ⟨p, xs, i, z, rfl, rfl, hq, he, q⟩ := h
 cases rx
 obtain ⟨t, rfl⟩ := ry
 obtain ⟨its, r, pl, hz⟩ := I.tuple hq
 obtain ⟨j, h1, h2, h3, h4, h5⟩ := atI_get he
 obtain ⟨w, ew, rw'⟩ := r.get h2
 have hl := r.length
 have hn := line63
 have fin : EP X pins σ Q w s := ⟨z, H, I, rw', q⟩
 exact subscriptTail_builtinR (x := w) pl.typeIs slot_tuple_getitem.lookup
   (getItem_tuple (j := j) (Q := fun r s' => r = w ∧ EP X pins σ Q r s') pl (by omega) (by omega) (by rw [List.size_toArray, ← hl]; exact h1) (by simpa using ew) ⟨rfl, fin⟩) hs
theorem ix_str : IxR X rIxS := by
 intro value slice pins s σ H x y v u Q I rx ry h hs
 obtain ⟨z, i, c, rfl, rfl, hz, he, q⟩ := h
 obtain ⟨t, rfl⟩ := rx
 obtain ⟨t', rfl⟩ := ry
 obtain ⟨j, h1, h2, h3, h4, h5⟩ := atI_get he
 have hl : z.cps.toList.length = z.length := by simp [Str.length]
 rw [hl] at h1 h4 h5
 have hn := line63
 exact tail_any (typeIs_str s z t) slot_str_getitem.lookup (getItem_str (c := c) (by
   have e1 : decide (i < -(2 ^ 63 : Int)) = false := decide_eq_false (by omega)
   have e2 : decide (i ≥ 2 ^ 63) = false := decide_eq_false (by omega)
   rw [e1, e2, Bool.or_false]) (by rw [h1]; simpa using h2) ⟨.str ⟨#[c]⟩, H, I.tok _, ⟨_, rfl⟩, q⟩) hs
theorem mapSeq_set (its : List Value) (n j : Nat) (u : Value) : Obj.mapSeq (·.setIfInBounds j u) { cls := .type "list", data := .seq its.toArray n } = { cls := .type "list", data := .seq (its.set j u).toArray n } := by
 simp [Obj.mapSeq]
theorem Inv.lst {pins : List (Addr × Obj)} {σ : St} {H : Hp} {s : Shared} {p : Addr} {xs : List V} (I : Inv X pins σ H s) (h : H p = some (.lst xs)) :
   ∃ (its : List Value) (n : Nat), Vals xs its ∧ s.heap.get? p = some { cls := .type "list", data := .seq its.toArray n } ∧ xs.length ≤ sizeLine := by
 obtain ⟨z, its, n, r, e⟩ := I.hok p _ h
 exact ⟨its, n, r, e, z⟩
theorem Inv.lstUpd {pins : List (Addr × Obj)} {σ : St} {H : Hp} {s : Shared} {p : Addr} {xs ys : List V} {its its' : List Value} {n n' : Nat} {f : Obj → Obj} (I : Inv X pins σ H s) (h : H p = some (.lst xs))
   (ho : s.heap.get? p = some { cls := .type "list", data := .seq its.toArray n }) (hf : f { cls := .type "list", data := .seq its.toArray n } = { cls := .type "list", data := .seq its'.toArray n' }) (r : Vals ys its') (hz : ys.length ≤ sizeLine) (t : Nat) :
   Inv X pins σ (upd H p (.lst ys)) { s with heap := s.heap.update p f, toks := t } := by
 have e : (s.heap.update p f).get? p = some { cls := .type "list", data := .seq its'.toArray n' } := by
   rw [Heap.get?_update_self f ho (by rw [hf] <;> rfl), hf]
 refine I.write (x := p) (e := p) (by rw [h]; trivial) (.inl rfl) (fun b u hb q => (Heap.get?_update_other _ _ (Ne.symm hb)).trans q) ⟨_, e⟩ ?_
 exact ⟨hz, its', n', r, e⟩
def rSetL : V → V → V → Hp → (Hp → Prop) → Prop := fun o i v H Q => ∃ p xs k j, o = .ref p ∧ i = .int k ∧ H p = some (.lst xs) ∧ ixN xs.length k = some j ∧ Q (upd H p (.lst (xs.set j v)))
theorem set_list : PSet X rSetL := by
 intro pins s σ H o i v ov iv u Q I ro ri rv h
 obtain ⟨p, xs, k, j, rfl, rfl, hp, hj, q⟩ := h
 cases ro
 obtain ⟨t, rfl⟩ := ri
 obtain ⟨its, n, r, ho, hz⟩ := I.lst hp
 obtain ⟨h1, h2, h3, h4⟩ := ixN_seq hj
 have hl := r.length
 have hn := line63
 have I' : Inv X pins σ (upd H p (.lst (xs.set j v))) { s with heap := s.heap.update p (Obj.mapSeq (·.setIfInBounds j u)) } :=
   I.lstUpd hp ho (mapSeq_set its n j u) (r.set rv j) (by rw [List.length_set]; exact hz) s.toks
 by_cases h0 : 0 ≤ k
 · have hk : k.toNat = j := by
     rw [seqIndex_of h0 h4] at h1
     exact Option.some.inj h1
   exact PySem.W.ki_setAt ho h0 (by omega) (by rw [List.size_toArray, ← hl]; exact h4) (by rw [hk]; exact ⟨_, I', q⟩)
 · have hk : (k + (its.toArray.size : Int)).toNat = j := by
     rw [seqIndex_neg (by omega) h3] at h1
     rw [List.size_toArray, ← hl]
     exact Option.some.inj h1
   exact PySem.W.ki_setBack ho (by omega) (by rw [List.size_toArray, ← hl]; exact h3) (by omega) (by rw [hk]; exact ⟨_, I', q⟩)
theorem slice_bounds (lo hi : Option Int) (n : Nat) : (sliceBounds lo hi none n).1 = ((HT.sIx n 0 lo : Nat) : Int) ∧ (sliceBounds lo hi none n).2.1 = ((HT.sIx n n hi : Nat) : Int) ∧ (sliceBounds lo hi none n).2.2 = 1 := by
 refine ⟨?_, ?_, rfl⟩
 · cases lo with
   | none => simp [sliceBounds, HT.sIx]
   | some i =>
     simp only [sliceBounds, HT.sIx, Option.getD_none, show (1 : Int) > 0 by decide, if_true]
     by_cases h : i < 0
     · simp only [h, if_true] <;> omega
     · simp only [h, if_false] <;> omega
 · cases hi with
   | none => simp [sliceBounds, HT.sIx]
   | some i =>
     simp only [sliceBounds, HT.sIx, Option.getD_none, show (1 : Int) > 0 by decide, if_true]
     by_cases h : i < 0
     · simp only [h, if_true] <;> omega
     · simp only [h, if_false] <;> omega
theorem slicePick_cut (its : List Value) (lo hi : Option Int) : slicePick its.toArray lo hi none = ((its.drop (HT.sIx its.length 0 lo)).take (HT.sIx its.length its.length hi - HT.sIx its.length 0 lo)).toArray := by
 obtain ⟨h1, h2, h3⟩ := slice_bounds lo hi its.toArray.size
 unfold slicePick
 rw [h1, h2, h3]
 simp only [sliceRange_one, pick_run, List.size_toArray] <;> rfl
def rSlL (K : PySem.W.Frag) : V → Option Int → Option Int → Hp → VK → Prop := fun x lo hi H Q => ∃ a xs, x = .ref a ∧ SqL K H a xs ∧ ∀ p, H p = none → Q (.ref p) (upd H p (.lst (cutV xs lo hi)))
theorem sl_list : SlR X (rSlL X.K) := by
 intro pins s σ H x v vl vu lo hi sl Q I rx hs pl pu h
 obtain ⟨a, xs, rfl, hx, q⟩ := h
 cases rx
 obtain ⟨its, r, ht, hz⟩ := I.list hx
 have hlen := r.length
 refine ⟨"list", _, slot_list_getitem.lookup, ht.isList.typeIs, ?_⟩
 refine wpAny_getItem_list_slice ht.isList hs pl pu .none (by simp) ?_ (by rw [List.size_toArray] <;> omega)
 rw [slicePick_cut, ← hlen]
 refine ⟨.ref s.heap.objs.size, _, I.laid (t' := s.toks) (o := .lst (cutV xs lo hi)) (fun b ob q => Heap.get?_push_of_some _ q) (Nat.le_refl _) ?_, rfl, q _ (I.hok.fresh (Nat.le_refl _))⟩
 exact ⟨Nat.le_trans (cutV_length xs lo hi) hz, _, 0, (r.drop (HT.sIx xs.length 0 lo)).take (HT.sIx xs.length xs.length hi - HT.sIx xs.length 0 lo), Heap.get?_push_size _ rfl⟩
def flatV : V → Bool
 | .non => true
 | .bl _ => true
 | .int _ => true
 | .str _ => true
 | _ => false
def eqV : V → V → Bool
 | .non, .non => true
 | .bl a, .bl b => a == b
 | .bl a, .int b => (if a then 1 else 0) == b
 | .int a, .bl b => a == (if b then 1 else 0)
 | .int a, .int b => a == b
 | .str a, .str b => a == b
 | _, _ => false
theorem eqAt_V {A : Around} {s : Shared} {y x : V} {u v : Value} (ry : RelV y u) (rx : RelV x v) (fy : flatV y = true) (fx : flatV x = true) : SeqAt.EqAt A s u v (eqV y x) := by
 cases y with
 | non =>
   cases ry
   cases x with
   | non => cases rx; exact SeqAt.EqAt.same _
   | bl b => cases rx; exact SeqAt.EqAt.none_bool b
   | int b => obtain ⟨t, rfl⟩ := rx; exact SeqAt.EqAt.none_int b t
   | str b => obtain ⟨t, rfl⟩ := rx; exact SeqAt.EqAt.none_str b t
   | _ => exact absurd (show false = true from fx) Bool.false_ne_true
 | bl a =>
   cases ry
   cases x with
   | non => cases rx; exact SeqAt.EqAt.bool_none a
   | bl b => cases rx; exact SeqAt.EqAt.bool_bool a b
   | int b => obtain ⟨t, rfl⟩ := rx; exact SeqAt.EqAt.bool_int a b t
   | str b => obtain ⟨t, rfl⟩ := rx; exact SeqAt.EqAt.bool_str a b t
   | _ => exact absurd (show false = true from fx) Bool.false_ne_true
 | int a =>
   obtain ⟨t', rfl⟩ := ry
   cases x with
   | non => cases rx; exact SeqAt.EqAt.int_none a t'
   | bl b => cases rx; exact SeqAt.EqAt.int_bool a t' b
   | int b => obtain ⟨t, rfl⟩ := rx; exact SeqAt.EqAt.int_int a t' b t
   | str b => obtain ⟨t, rfl⟩ := rx; exact SeqAt.EqAt.int_str a t' b t
   | _ => exact absurd (show false = true from fx) Bool.false_ne_true
 | str a =>
   obtain ⟨t', rfl⟩ := ry
   cases x with
   | non => cases rx; exact SeqAt.EqAt.str_none a t'
   | bl b => cases rx; exact SeqAt.EqAt.str_bool a t' b
   | int b => obtain ⟨t, rfl⟩ := rx; exact SeqAt.EqAt.str_int a t' b t
   | str b => obtain ⟨t, rfl⟩ := rx; exact SeqAt.EqAt.str_str a t' b t
   | _ => exact absurd (show false = true from fx) Bool.false_ne_true
 | _ => exact absurd (show false = true from fy) Bool.false_ne_true
def eqU (x : V) (u : Value) : Bool := match u with
 | .none => eqV .non x
 | .bool b => eqV (.bl b) x
 | .int i _ => eqV (.int i) x
 | .str z _ => eqV (.str z) x
 | _ => false
theorem eqU_of {x y : V} {u : Value} (r : RelV y u) (f : flatV y = true) : eqU x u = eqV y x := by
 cases y with
 | non => cases r; rfl
 | bl b => cases r; rfl
 | int i => obtain ⟨t, rfl⟩ := r; rfl
 | str z => obtain ⟨t, rfl⟩ := r; rfl
 | _ => exact absurd (show false = true from f) Bool.false_ne_true
theorem mem_eqAt {A : Around} {s : Shared} {x : V} {v : Value} (rx : RelV x v) (fx : flatV x = true) : ∀ {xs : List V} {us : List Value}, Vals xs us → xs.all flatV = true → ∀ u ∈ us, SeqAt.EqAt A s u v (eqU x u)
 | _, _, .nil, _ => fun u hu => by cases hu
 | y :: xs, u :: us, .cons r t, f => fun u' hu => by
   rw [List.all_cons, Bool.and_eq_true] at f
   rcases List.mem_cons.mp hu with rfl | hu
   · rw [eqU_of r f.1]; exact eqAt_V r rx f.1 fx
   · exact mem_eqAt rx fx t f.2 u' hu
theorem op_notIn_str : OpR X (compareOp .NotIn) (fun x y H Q => ∃ i j, x = .str i ∧ y = .str j ∧ Q (.bl (!(!(Builtin.Str.occurrences j i 0 j.length 1).isEmpty))) H) := by
 intro pins s σ H x y v u Q I rx ry h
 obtain ⟨i, j, rfl, rfl, q⟩ := h
 obtain ⟨t, rfl⟩ := rx
 obtain ⟨t', rfl⟩ := ry
 exact notIn_str ⟨.bl _, H, I, rfl, q⟩
theorem call_len_seq : CallR X (.builtin "len") (fun xs H Q => ∃ p ys, xs = [.ref p] ∧ (SqL X.K H p ys ∨ SqT X.K H p ys) ∧ Q (.int ys.length) H) := by
 intro pins s σ H xs us Q I r h
 obtain ⟨p, ys, rfl, hq, q⟩ := h
 obtain ⟨u, rfl, rx⟩ := vals1 r
 cases rx
 have hn := line63
 rcases hq with hq | hq
 · obtain ⟨its, r', pl, hz⟩ := I.list hq
   have hlen := r'.length
   exact Calls.call_len_list pl.isList (by simp only [List.size_toArray] <;> omega) ⟨.int ys.length, H, I.tok _, ⟨s.toks + 1, by rw [List.size_toArray, hlen]⟩, q⟩
 · obtain ⟨its, r', pl, hz⟩ := I.tuple hq
   have hlen := r'.length
   exact len_tuple pl (by simp only [List.size_toArray] <;> omega) ⟨.int ys.length, H, I.tok _, ⟨s.toks + 1, by rw [List.size_toArray, hlen]⟩, q⟩
theorem call_len_str : CallR X (.builtin "len") (fun xs H Q => ∃ z, xs = [.str z] ∧ z.length ≤ sizeLine ∧ Q (.int z.length) H) := by
 intro pins s σ H xs us Q I r h
 obtain ⟨z, rfl, hz, q⟩ := h
 obtain ⟨u, rfl, t, rfl⟩ := vals1 r
 have hn := line63
 exact len_str (by omega) ⟨.int z.length, H, I.tok _, ⟨_, rfl⟩, q⟩
theorem CallR.or {f : Value} {r r' : List V → Hp → VK → Prop} (h : CallR X f r) (h' : CallR X f r') : CallR X f (fun xs H Q => r xs H Q ∨ r' xs H Q) := by
 intro pins s σ H xs us Q I rs q
 rcases q with q | q
 · exact h pins s σ H xs us Q I rs q
 · exact h' pins s σ H xs us Q I rs q
theorem call_list_of : CallR X (.type "list") (fun xs H Q => ∃ p ys, xs = [.ref p] ∧ (SqL X.K H p ys ∨ SqT X.K H p ys) ∧ ∀ l, H l = none → Q (.ref l) (upd H l (.lst ys))) := by
 intro pins s σ H xs us Q I r h
 obtain ⟨p, ys, rfl, hq, q⟩ := h
 obtain ⟨u, rfl, rx⟩ := vals1 r
 cases rx
 have fin : ∀ (its : List Value), Vals ys its → ys.length ≤ sizeLine → ∀ (h' : Heap) (c' : Nat), (∀ b o', s.heap.get? b = some o' → h'.get? b = some o') →
     h'.get? s.heap.objs.size = some { cls := .type "list", dict := none, data := .seq its.toArray c', slots := #[] } → EP X pins σ Q (.ref s.heap.objs.size) { s with heap := h' } := fun its r' hz h' c' kp e =>
   ⟨.ref s.heap.objs.size, _, I.laid (t' := s.toks) kp (Nat.le_refl _) (show ObjOk X.prog X.w _ h' _ (.lst ys) from ⟨hz, its, c', r', e⟩), rfl, q _ (I.hok.fresh (Nat.le_refl _))⟩
 rcases hq with hq | hq
 · obtain ⟨its, r', pl, hz⟩ := I.list hq
   have hlen := r'.length
   obtain ⟨o, ho, hc, n, hd⟩ := pl.isList
   exact call_list_seq p (.inl rfl) ho hc hd (fun h' c' kp e => fin its r' hz h' c' kp e) (by simp only [List.size_toArray] <;> omega)
 · obtain ⟨its, r', pl, hz⟩ := I.tuple hq
   have hlen := r'.length
   obtain ⟨o, ho, hc, n, hd⟩ := pl
   exact call_list_seq p (.inr rfl) ho hc hd (fun h' c' kp e => fin its r' hz h' c' kp e) (by simp only [List.size_toArray] <;> omega)
theorem call_tuple_of : CallR X (.type "tuple") (fun xs H Q => ∃ p ys, xs = [.ref p] ∧ ((SqL X.K H p ys ∧ ∀ l, H l = none → Q (.ref l) (upd H l (.tup ys))) ∨ (SqT X.K H p ys ∧ Q (.ref p) H))) := by
 intro pins s σ H xs us Q I r h
 obtain ⟨p, ys, rfl, h⟩ := h
 obtain ⟨u, rfl, rx⟩ := vals1 r
 cases rx
 rcases h with ⟨hq, q⟩ | ⟨hq, q⟩
 · obtain ⟨its, r', pl, hz⟩ := I.list hq
   have hlen := r'.length
   refine call_tuple_list pl.isList (fun h' kp => ?_) (by simp only [List.size_toArray] <;> omega)
   have I1 : Inv X pins σ H { s with heap := h' } := I.kept (t' := s.toks) kp
   have I2 : Inv X pins σ (upd H h'.objs.size (.tup ys)) { s with heap := h'.push { cls := .type "tuple", data := .seq its.toArray } } :=
     I1.laid (t' := s.toks) (fun b o e => Heap.get?_push_of_some _ e) (Nat.le_refl _) (show ObjOk X.prog X.w _ _ _ (.tup ys) from ⟨hz, its, r', IsTup.new _ _⟩)
   exact ⟨.ref h'.objs.size, _, I2, rfl, q _ (I1.hok.fresh (Nat.le_refl _))⟩
 · obtain ⟨its, r', pl, hz⟩ := I.tuple hq
   exact call_tuple_same pl ⟨.ref p, H, I, rfl, q⟩
def tyV (K : PySem.W.Frag) (T : String) (x : V) (H : Hp) : Prop := match x with
 | .str _ => T = "str"
 | .int _ => T = "int"
 | .ref p => (T = "list" ∧ ∃ xs, SqL K H p xs) ∨ (T = "tuple" ∧ ∃ o, K.lookup p = some o ∧ o.cls = .type "tuple" ∧ o.dict = none) ∨
     (T = "dict" ∧ ((∃ kvs, H p = some (.dK kvs)) ∨ ∃ kvs, H p = some (.dT kvs))) ∨ (T = "set" ∧ ∃ S n, H p = some (.set S n))
 | _ => False
theorem tyV_is {pins : List (Addr × Obj)} {σ : St} {H : Hp} {s : Shared} {T : String} {x : V} {v : Value} (I : Inv X pins σ H s) (r : RelV x v) (ty : tyV X.K T x H) :
   s.TypeIs v T ∧ ∀ a, v = .ref a → ∃ ob, s.heap.get? a = some ob ∧ ob.dict = none := by
 cases x with
 | str z =>
   obtain ⟨t, rfl⟩ := r
   cases (show T = "str" from ty)
   exact ⟨typeIs_str s z t, fun _ e => nomatch e⟩
 | int i =>
   obtain ⟨t, rfl⟩ := r
   cases (show T = "int" from ty)
   exact ⟨typeIs_int s i t, fun _ e => nomatch e⟩
 | ref p =>
   cases r
   rcases ty with ⟨rfl, xs, hq⟩ | ⟨rfl, o, hk, hc, hd⟩ | ⟨rfl, hk⟩ | ⟨rfl, S, n, hk⟩
   · obtain ⟨its, _, pl, _⟩ := I.list hq
     refine ⟨pl.isList.typeIs, fun a e => ?_⟩
     cases e
     obtain ⟨o, n, e, c, hd, _⟩ := pl
     exact ⟨o, e, hd⟩
   · refine ⟨⟨o, I.kIn p o hk, hc⟩, fun a e => ?_⟩
     cases e
     exact ⟨o, I.kIn _ o hk, hd⟩
   · have z : ∃ o, s.heap.get? p = some o ∧ o.ExactDict := by
       rcases hk with ⟨kvs, hk⟩ | ⟨kvs, hk⟩
       · obtain ⟨_, _, _, _, o, _, _, e, ex, _⟩ := I.hok p _ hk
         exact ⟨o, e, ex⟩
       · obtain ⟨_, _, _, _, o, _, _, e, ex, _⟩ := I.hok p _ hk
         exact ⟨o, e, ex⟩
     obtain ⟨o, e, ex⟩ := z
     refine ⟨⟨o, e, ex.1⟩, fun a e2 => ?_⟩
     cases e2
     exact ⟨o, e, ex.2.1⟩
   · obtain ⟨o, _, _, _, e, ex, _⟩ := I.hok p _ hk
     refine ⟨⟨o, e, ex.1⟩, fun a e2 => ?_⟩
     cases e2
     exact ⟨o, e, ex.2.1⟩
 | _ => exact False.elim ty
def tBM (K : PySem.W.Frag) (T : String) (r : V → List V → Hp → VK → Prop) (to : TE) (t : TA) : TE := fun σ H Q => to σ H fun x H1 => tyV K T x H1 ∧ t σ H1 fun xs H2 => r x xs H2 Q
variable {o e : Expr} {es : List Expr} {to : TE} {t : TA} {name : Str} {apos cpos : Pos} {T id : String} {r : V → List V → Hp → VK → Prop}
theorem pe_bm (pa : PlainAttrs T) (slot : Slot T name id) (hty : typeOf (.builtin id) = pure (.type "method_descriptor")) (hm : MtR X id r) (ho : PE X o to) (ha : PA X (e :: es) t)
   (hbase : attributeBase o name X.env (eval o X.env) = eval o X.env := by rfl)
   (hfew : ((backTo cpos (starEach (e :: es) X.env)).all (fun x => !x.1) && (backToKw cpos (keywordEach [] X.env)).all (fun x => x.1.isSome)
     && decide ((e :: es).length + ([] : List Keyword).length + (if ([] : List Keyword).isEmpty then 0 else 1) < 30)) = true := by rfl)
   (hline : (apos.endLine == cpos.line) = true := by rfl) (hs : starEach (e :: es) X.env = (false, eval e X.env) :: starEach es X.env := by rfl) (hplain : (backTo cpos (starEach es X.env)).any (·.1) = false := by rfl) :
   PE X (.Call (.Attribute o name apos) (e :: es) [] cpos) (tBM X.K T r to t) := by
 intro pins s σ H Q I h
 refine wpAny_Call_method_late hbase hfew hline rfl (thn (ho pins s σ H _ I h) fun v s1 ⟨x, H1, I1, r1, ty, q1⟩ => ?_)
 obtain ⟨h1, h2⟩ := tyV_is I1 r1 ty
 refine ⟨T, id, pa, slot, hty, h1, h2, ?_⟩
 have hA := ha cpos pins s1 σ H1 _ I1 q1
 rw [hs] at hA ⊢
 refine Calls.callWith_builtin (by show (false || (backTo cpos (starEach es X.env)).any (·.1)) = false; rw [hplain] <;> rfl) (Calls.evalArgs_plain ?_)
 exact thn hA fun us s2 ⟨vs, H2, I2, r2, q2⟩ => hm pins s2 σ H2 x vs v us Q I2 r1 r2 q2
/- xs.append(e), list.index on a module's tuple .. are MtR facts of 06m -/
end
end L2

namespace L2
open PySem PySem.Spec PyProof.Rows

def MtM (X : Cx) (id : String) (r : V → List V → Hp → VK → Prop) : Prop :=
 ∀ (pins : List (Addr × Obj)) (s : Shared) (σ : St) (H : Hp) (x : V) (xs : List V) (v : Value) (us : List Value) (Q : VK), Inv X pins σ H s → RelV x v → Vals xs us → r x xs H Q →
   wpAny (model X.prog X.w) X.A (call (.builtin id) (v :: us)) (EP X pins σ Q) X.xe s
theorem Vals.one : ∀ {x : V} {us : List Value}, Vals [x] us → ∃ u, us = [u] ∧ RelV x u
 | _, _, .cons r .nil => ⟨_, rfl, r⟩
theorem Vals.zero : ∀ {us : List Value}, Vals [] us → us = []
 | _, .nil => rfl
theorem Vals.reverse {xs : List V} {us : List Value} (h : Vals xs us) : Vals xs.reverse us.reverse := by
 induction h with
 | nil => exact .nil
 | cons r t ih => rw [List.reverse_cons, List.reverse_cons]; exact Vals.append ih (.cons r .nil)
theorem Vals.rep {xs : List V} {us : List Value} (h : Vals xs us) : ∀ k : Nat, Vals (List.replicate k xs).flatten (List.replicate k us).flatten
 | 0 => .nil
 | k + 1 => by
   rw [List.replicate_succ, List.replicate_succ, List.flatten_cons, List.flatten_cons]
   exact Vals.append h (Vals.rep h k)
theorem foldl_rep (its : List Value) : ∀ (k : Nat) (acc : List Value),
   List.foldl (fun x1 x2 => x1 ++ x2) acc.toArray (List.replicate k its.toArray) = (acc ++ (List.replicate k its).flatten).toArray
 | 0, acc => by simp
 | k + 1, acc => by
   have e : acc.toArray ++ its.toArray = (acc ++ its).toArray := by simp
   have e2 : (acc ++ its) ++ (List.replicate k its).flatten = acc ++ (List.replicate (k + 1) its).flatten := by
     rw [List.replicate_succ, List.flatten_cons, List.append_assoc]
   rw [← e2, ← foldl_rep its k (acc ++ its), ← e, List.replicate_succ, List.foldl_cons]

section
variable {X : Cx} {pins : List (Addr × Obj)} {σ : St} {H : Hp} {s : Shared} {l b : Addr} {xs ys zs : List V}
theorem Inv.lset {its its' : List Value} {n : Nat} {f : Array Value → Array Value} {t' : Nat} (I : Inv X pins σ H s) (hH : H l = some (.lst xs))
   (e : s.heap.get? l = some { cls := .type "list", data := .seq its.toArray n }) (hf : f its.toArray = its'.toArray) (hv : Vals ys its') (hz : ys.length ≤ sizeLine) :
   Inv X pins σ (upd H l (.lst ys)) { s with heap := s.heap.update l (Obj.mapSeq f), toks := t' } := by
 have q := PySem.IsL.update e f
 rw [hf] at q
 refine I.write (x := l) (e := l) (by rw [hH]; exact trivial) (.inl rfl) (fun b' u hb hu => (Heap.get?_update_other s.heap (Obj.mapSeq f) (Ne.symm hb)).trans hu) ⟨_, q⟩ ?_
 exact ⟨hz, its', _, hv, q⟩
theorem Inv.lnew {its : List Value} {t' : Nat} (I : Inv X pins σ H s) (hv : Vals ys its) (hz : ys.length ≤ sizeLine) :
   Inv X pins σ (upd H s.heap.objs.size (.lst ys)) { s with heap := s.heap.push { cls := .type "list", data := .seq its.toArray }, toks := t' } :=
 I.laid (fun _ _ q => Heap.get?_push_of_some _ q) (Nat.le_refl _) ⟨hz, its, 0, hv, Heap.get?_push_size _ rfl⟩
theorem Inv.fresh (I : Inv X pins σ H s) : H s.heap.objs.size = none := I.hok.fresh (Nat.le_refl _)
theorem Inv.lstM (I : Inv X pins σ H s) (hH : H l = some (.lst xs)) : xs.length ≤ sizeLine ∧ ∃ (its : List Value) (n : Nat), Vals xs its ∧ xs.length = its.length ∧ s.heap.get? l = some { cls := .type "list", data := .seq its.toArray n } := by
 obtain ⟨z, its, n, r, e⟩ := I.hok l _ hH
 exact ⟨z, its, n, r, r.length, e⟩

theorem notLongL {n : Nat} (h : n ≤ sizeLine) : Builtin.List.listTooLong n = false := by
 unfold Builtin.List.listTooLong
 exact decide_eq_false (by omega)
end

section
variable {X : Cx}
def rAppend : V → List V → Hp → VK → Prop := fun x vs H Q => ∃ l xs y, x = .ref l ∧ vs = [y] ∧ H l = some (.lst xs) ∧ xs.length < sizeLine ∧ Q .non (upd H l (.lst (xs ++ [y])))
theorem mt_append : MtM X "list.append" rAppend := by
 intro pins s σ H x vs v us Q I rx rv h
 obtain ⟨l, xs, y, rfl, rfl, hH, hz, q⟩ := h
 cases rx
 obtain ⟨u, rfl, ru⟩ := rv.one
 obtain ⟨z, its, n, r, hl, e⟩ := I.lstM hH
 refine call_meets F.slot_list_append ⟨_, e, rfl⟩ F.entry_list_append (F.args_list_append_2 _ _) (PySem.list_append l its.toArray n u (by rw [List.size_toArray]; omega)) ⟨e, ?_⟩
 refine ⟨.non, _, I.lset (its' := its ++ [u]) hH e (by simp) (r.append (.cons ru .nil)) ?_, rfl, q⟩
 rw [List.length_append, List.length_singleton]
 omega

def rCat : R2 := fun x y H Q => ∃ l b xs zs, x = .ref l ∧ y = .ref b ∧ H l = some (.lst xs) ∧ H b = some (.lst zs) ∧ xs.length + zs.length ≤ sizeLine ∧ ∀ p, H p = none → Q (.ref p) (upd H p (.lst (xs ++ zs)))
theorem op_cat : OpR X (binaryOp .Add) rCat := by
 intro pins s σ H x y v u Q I rx ry h
 obtain ⟨l, b, xs, zs, rfl, rfl, hH, hB, hz, q⟩ := h
 cases rx
 cases ry
 obtain ⟨z, its, n, r, hl, e⟩ := I.lstM hH
 obtain ⟨z2, its2, n2, r2, hl2, e2⟩ := I.lstM hB
 refine PySem.P.add_list e e2 ?_ (by rw [List.size_toArray, List.size_toArray]; omega)
 have ea : its.toArray ++ its2.toArray = (its ++ its2).toArray := by simp
 rw [ea]
 exact ⟨.ref _, _, I.lnew (t' := s.toks) (r.append r2) (by rw [List.length_append]; omega), rfl, q _ I.fresh⟩
def rRep : R2 := fun x y H Q => ∃ l k xs, x = .ref l ∧ y = .int k ∧ H l = some (.lst xs) ∧ -(2 ^ 63) ≤ k ∧ k < 2 ^ 63 ∧ xs.length * k.toNat ≤ sizeLine ∧
 ∀ p, H p = none → Q (.ref p) (upd H p (.lst (List.replicate k.toNat xs).flatten))
theorem len_rep {α : Type} (xs : List α) (k : Nat) : (List.replicate k xs).flatten.length = k * xs.length := by
 induction k with
 | zero => simp
 | succ k ih => rw [List.replicate_succ, List.flatten_cons, List.length_append, ih, Nat.succ_mul, Nat.add_comm]
theorem op_rep : OpR X (binaryOp .Mult) rRep := by
 intro pins s σ H x y v u Q I rx ry h
 obtain ⟨l, k, xs, rfl, rfl, hH, h1, h2, hz, q⟩ := h
 cases rx
 obtain ⟨t, rfl⟩ := ry
 obtain ⟨z, its, n, r, hl, e⟩ := I.lstM hH
 have hlen : its.toArray.size * k.toNat ≤ sizeLine := by rw [List.size_toArray, ← hl]; exact hz
 have hcap : ¬ its.toArray.size * k.toNat > (2 ^ 63 - 1) / 8 := by
   have : (sizeLine : Nat) ≤ (2 ^ 63 - 1) / 8 := by decide
   omega
 have hfit : ¬ (!Builtin.List.listFitsIndex k) = true := by
   rw [fitsIndex_both h1 h2]
   exact Bool.false_ne_true
 have hlong : ¬ Builtin.List.listTooLong (its.toArray.size * k.toNat) = true := by
   rw [notLongL hlen]
   exact Bool.false_ne_true
 have hnew : List.foldl (fun x1 x2 => x1 ++ x2) #[] (List.replicate (if its.toArray.isEmpty = true then 0 else k.toNat) its.toArray) = (List.replicate k.toNat its).flatten.toArray := by
   have f0 : ∀ m : Nat, List.foldl (fun x1 x2 => x1 ++ x2) #[] (List.replicate m its.toArray) = (List.replicate m its).flatten.toArray := fun m => by
     have := foldl_rep its m []
     rw [List.nil_append] at this
     exact this
   rw [f0]
   cases its with
   | nil => simp
   | cons a r' => rw [if_neg (by simp)]
 refine wpAny_binaryOp_repeat_ref (T := "list") (U := "int") (by decide) ⟨_, e, rfl⟩ (fun s' => typeIs_int s' k t) noFill_list_mul F.fills_int_mul F.slot_int_rmul repeat_list F.slot_int_index.lookup
   (call_meets F.slot_int_rmul (typeIs_int s k t) F.entry_int_rmul (F.args_int_rmul_2 _ _) (int___rmul___int_list k t l its.toArray n)
     ⟨e, rfl, ⟨_, e, rfl⟩, call_meets F.slot_list_mul ⟨_, e, rfl⟩ F.entry_list_mul (F.args_list_mul_2 _ _) (AutoListH.list___mul___list_int_3 l its.toArray n k t hfit hcap hlong) ⟨e, ?_⟩⟩)
 rw [hnew]
 exact ⟨.ref _, _, I.lnew (t' := s.toks) (r.rep k.toNat) (by rw [len_rep, Nat.mul_comm]; exact hz), rfl, q _ I.fresh⟩
end
section
variable {prog : Program} {w : World} {A : Around} {E : Value → Shared → Prop} {s : Shared}
theorem bounds_run {a c n : Nat} (hac : a ≤ c) (hc : c ≤ n) : sliceBounds (some (a : Int)) (some (c : Int)) none n = ((a : Int), (c : Int), 1) := by
 simp only [sliceBounds, Option.getD_none]
 have h1 : ¬ ((a : Int) < 0) := by omega
 have h2 : ¬ ((c : Int) < 0) := by omega
 simp only [h1, h2, if_false, show (1 : Int) > 0 by decide, if_true]
 congr 1
 · omega
 · congr 1; omega
set_option maxRecDepth 100000 in
theorem setItem_slice {l b sl : Addr} {items new : Array Value} {n n2 : Nat} {vl vu : Value} {a c : Nat} {Q : Unit → Shared → Prop}
   (e : s.heap.get? l = some { cls := .type "list", data := .seq items n }) (e2 : s.heap.get? b = some { cls := .type "list", data := .seq new n2 }) (hne : l ≠ b)
   (hs : s.heap.IsSliceOf sl vl vu .none) (pl : IsPart vl (some (a : Int))) (pu : IsPart vu (some (c : Int))) (hac : a ≤ c) (hc : c ≤ items.size)
   (hsz : items.size + new.size ≤ sizeLine) (h : Q () { s with heap := s.heap.update l (Obj.mapSeq fun xs => xs.extract 0 a ++ new ++ xs.extract c xs.size) }) :
   wpAny (model prog w) A (setItem (.ref l) (.ref sl) (.ref b)) Q E s := by
 have hl : s.heap.IsList l items := PySem.IsL.isList e
 have hb : s.heap.IsList b new := PySem.IsL.isList e2
 obtain ⟨os, hos, hcs, hds⟩ := id hs
 have hTs : s.TypeIs (.ref sl) "slice" := ⟨os, hos, hcs⟩
 have hstep : ¬ ((rawPart none == rawInt 0) = true) := Bool.false_ne_true
 have hsame : Builtin.List.listSameRef (.ref l) (.ref b) = false := by
   unfold Builtin.List.listSameRef
   exact beq_eq_false_iff_ne.mpr hne
 have hmax : (max (a : Int) (c : Int)).toNat = c := by omega
 have hz' : ((fun xs : Array Value => xs.extract 0 a ++ new ++ xs.extract c xs.size) items).size ≤ sizeLine + 1 := by
   simp only [Array.size_append, Array.size_extract]
   omega
 unfold setItem
 try with_reducible refine wpAny_holding ?_
 first | refine wpAny_bind (wpAny_pure ?_) | skip
 refine wpAny_bind (wpAny_sequenceKey hl.typeIs (by decide) ?_)
 refine wpAny_bind (wpAny_callSpecial?_slot (name := Str.ofString "__setitem__") hl.typeIs slot_list_setitem
   (wpAny_call_entry slot_list_setitem hl.typeIs entry_list_setitem ?_ (args_list_setitem _ _ _)))
 show wpAny _ _ (Builtin.List.listSubscript? (.ref sl) >>= _) _ _ s
 refine wpAny_bind ?_
 unfold Builtin.List.listSubscript?
 refine wpAny_bind (wpAny_specialOf hTs slice_no_index ?_)
 simp only [Option.isNone_none, if_true]
 refine wpAny_pure ?_
 show wpAny _ _ (typeOf (.ref sl) >>= _) _ _ s
 refine wpAny_bind (wpAny_typeOf hTs ?_)
 first
   | rw [if_neg (by decide)]
   | refine PySem.W.KFB.if_not (by decide) ?_
 rw [listSliceParts_eq]
 refine wpAny_bind (wpAny_bind (wpAny_field hos hds (x := .none) rfl (wpAny_bind (wpAny_listPart .none ?_))))
 rw [if_neg hstep]
 refine wpAny_bind (wpAny_field hos hds (x := vl) rfl (wpAny_bind (wpAny_listPart pl ?_)))
 refine wpAny_bind (wpAny_field hos hds (x := vu) rfl (wpAny_bind (wpAny_listPart pu (wpAny_pure ?_))))
 first
   | simp only [hsame, Bool.false_eq_true, if_false]
   | refine PySem.W.KFB.if_not hsame ?_
   | (dsimp only
      rw [if_neg (by rw [hsame]; exact Bool.false_ne_true)])
 refine wpAny_bind (m := Builtin.List.listAllItems (.ref b) "must assign iterable to extended slice") ?_
 unfold Builtin.List.listAllItems
 refine wpAny_bind (wpAny_typeOf hb.typeIs ?_)
 first
   | refine PySem.W.KFB.if_so (by decide) ?_
   | rw [if_pos (by decide)]
   | simp only [beq_self_eq_true, Bool.true_or, if_true]
 unfold Builtin.List.listItems
 refine wpAny_bind (wpAny_seqItems e2 rfl (wpAny_pure ?_))
 refine wpAny_bind (wpAny_bind (wpAny_seqItems e rfl (wpAny_pure ?_)))
 refine wpAny_bind (wpAny_of_eq ((sliceIndices_raw (some (a : Int)) (some (c : Int)) none items.size (by simp)).trans (congrArg (pure : Int × Int × Int → Sem (Int × Int × Int)) (bounds_run hac hc))) ?_)
 show wpAny _ _ (if ((1 : Int) == 1) = true then _ else _) _ _ s
 rw [if_pos (by decide)]
 refine wpAny_bind (wpAny_rule ?_)
 first
   | simp only [notLongL hsz, Bool.false_eq_true, if_false]
   | refine PySem.W.KFB.if_not (notLongL hsz) ?_
 first | refine wpAny_bind (wpAny_pure ?_) | skip
 show wpAny _ _ (updateSeq l (fun xs => xs.extract 0 ((a : Int)).toNat ++ new ++ xs.extract (max (a : Int) (c : Int)).toNat xs.size) >>= _) _ _ s
 rw [hmax, Int.toNat_natCast]
 refine wpAny_bind (wpAny_updateSeq (hz := Nat.le_trans (Nat.le_add_right _ _) hsz) (_hz' := hz') e rfl ?_)
 refine wpAny_bind (wpAny_letGo ?_)
 first
   | exact wpAny_bind (wpAny_pure (wpAny_pure ⟨.none, rfl, wpAny_pure h⟩))
   | exact wpAny_pure ⟨.none, rfl, wpAny_pure h⟩
end

section
variable {X : Cx}
end
end L2

namespace Att
open PySem PySem.W PySem.Calls PyProof.Rows
theorem ints_of_wellAll {P : Params} {h : Heap} : ∀ (ns : List Int) (vs : List Value), WellAll P h vs (ns.map WData.int) → IntsAre vs ns := by
 intro ns
 induction ns with
 | nil =>
   intro vs w
   rw [List.map_nil] at w
   cases w
   exact .nil
 | cons n ns ih =>
   intro vs w
   rw [List.map_cons] at w
   cases w with
   | cons a b =>
     cases a
     exact .cons _ _ (ih _ b)

theorem script_of {l : OpenLaw} {n : Nat} (hn : l.most = some n) {P : Params} {h : Heap} {args : List WData} {vals : List Value}
   (hpre : l.row.toRowW.claim.pre args = true) (hwl : WellAll P h vals args) :
   ∃ a vs ns, vals = [Value.ref a] ∧ args = [WData.list (ns.map WData.int)] ∧ h.get? a = some { cls := .type "list", data := .seq vs.toArray } ∧ IntsAre vs ns ∧ ns.length ≤ n := by
 have hsh : WShape.hasAll [] args [.list .int] = true := (pre_splitW hpre).1
 have hc : l.pre.holds [] { args := args } = true := (pre_splitW hpre).2
 obtain ⟨d, r, rfl, h1, h2⟩ := hasAllW_cons hsh
 obtain rfl := hasAllW_nil h2
 obtain ⟨xs, rfl, h3⟩ := hasW_list h1
 obtain ⟨ns, rfl⟩ := items_int h3
 have hlen : ns.length ≤ n := by
   unfold OpenLaw.pre at hc
   have h4 : (WTm.not (.lt (.lit (.int (n : Int))) (.len (.arg 0)))).holds [] { args := [.list (ns.map .int)] } = true := by
     have h4 := (holds_andW hc).1
     rw [hn] at h4
     exact h4
   have h5 := condW_of h4 (w_not (w_lt w_lit (w_len_list (w_arg rfl))))
   rw [List.length_map] at h5
   refine Nat.le_of_not_lt fun q => ?_
   have q' : (n : Int) < ((ns.length : Nat) : Int) := by omega
   first
     | (rw [decide_eq_true q'] at h5; exact absurd h5 (by decide))
     | (simp at h5; omega)
 cases hwl with
 | cons w1 w2 =>
   cases w2
   cases w1 with
   | list ho hall => exact ⟨_, _, ns, rfl, rfl, ho, ints_of_wellAll ns _ hall, hlen⟩

theorem post_true (l : OpenLaw) (args : List WData) : l.row.toRowW.claim.post args (.bool true) args = true :=
 postW_of (r := l.row.toRowW) (X := (true == true))
   (show WShape.has [] (.bool true) .bool = true by first | rfl | decide | simp [WShape.has, WShape.arms, WShape.armsAll])
   (show (WTm.eq .res (.lit (.bool true))).value [] { args := args, res := some (.bool true), after := args } = some (.bool (true == true)) from w_eq_bool (w_res rfl) w_lit) rfl
theorem attach_call {l : OpenLaw} {n : Nat} {q : Program} {loose : List Str} {XP : (Str → Option Value) → Heap → Prop} {YP : World → Heap → Prop} {d : DefRec}
   (hn : l.most = some n) (hdf : d.params.defaults = [])
   (call : ∀ (w : World) (s₀ s₁ : Shared) (mg mb : Str → Option Value) (fa : Addr) (o : Obj) (pm cd doc : Value) (a : Addr) (vs : List Value) (ns : List Int),
     Ground q loose [] XP w s₀ mg mb s₁.heap → YP w s₁.heap →
     s₁.heap.get? fa = some o → o.data = .func (docDef d.name d.params d.body d.scope pm cd doc) → s₁.heap.CodeRec cd d.name → mg d.name = some (.ref fa) →
     s₁.heap.get? a = some { cls := .type "list", data := .seq vs.toArray } → IntsAre vs ns → ns.length ≤ n → s₁.gens = #[] →
     codeAny (model l.prog w) callerA (.call (.ref fa) ⟨[.ref a], []⟩) (fun r s' => r = .ok (.ret (.bool true)) ∧ OldK s₁.heap s'.heap ∧ s'.os = s₁.os ∧ AllBare s'.gens) s₁) :
   WalkO q loose XP YP l.row.toRowW d [] (fun f vs => PySem.call f vs) := by
 intro w s₀ s₁ mg mb G Y fa o pm cd doc dV kV ho hd hcd hD hmg hg args vals as hpre hlay hrd hwl hlo
 obtain rfl : dV = .none := Dflts.none hD hdf
 obtain rfl : kV = .none := Dflts.noKw hD
 obtain ⟨a, vs, ns, rfl, rfl, hobj, hints, hlen⟩ := script_of hn hpre hwl
 refine enter_call (codeAny_mono (call w s₀ s₁ mg mb fa o pm cd doc a vs ns G Y ho (fd_plain hd) hcd hmg hobj hints hlen hg) fun r s' hq => ?_)
 obtain ⟨rfl, h2, h3, h4⟩ := hq
 exact ⟨.inl ⟨.bool true, .bool true, [], rfl, fun _ => rfl, .bool true, post_true l _, fun _ => ⟨List.Pairwise.nil, fun _ hm => (nomatch hm)⟩⟩, h2, h3, h4⟩
section
variable {prog : Program} {w : World} {A : Around} {E : Value → Shared → Prop} {s : Shared} {K : Frag}
end
end Att

namespace L2
open PySem PySem.Spec PyProof.Rows

theorem vals_ints : ∀ {vs : List Value} {ns : List Int}, IntsAre vs ns → Vals (ns.map V.int) vs
 | _, _, .nil => .nil
 | _, _, .cons n t h => .cons ⟨t, rfl⟩ (vals_ints h)
def Only (H : Hp) : Prop := ∀ b, H b = none ∨ ∃ o xs, H b = some (.frz o (.lst xs))
theorem law_call {P : Program} {w : World} {K : PySem.W.Frag} {mg mb : Str → Option Value} {CX : CXT} {k : Nat} {fa a : Addr} {fd : FuncData} {x : Str} {sp : Sp} {s₁ : Shared} {vs : List Value} {ns : List Int}
   (KX : K.In s₁.heap) (hns : s₁.heap.Ns mainGlobals mg) (hb : s₁.heap.Ns builtinsNs mb) (hbb : ∀ x : Str, x ≠ "__name__" → mb x = bootBuiltins x) (hlim : s₁.heap.NoLimit) (hg : s₁.gens = #[])
   (ha : s₁.heap.get? a = some { cls := .type "list", data := .seq vs.toArray }) (hi : IntsAre vs ns) (hl : ns.length ≤ sizeLine) (hr : Room k callerA)
   (F : ∀ base : Heap, K.In base → base.Ns mainGlobals mg → FnOk P w K mg base CX k fa fd [x] sp) (hbind : ∀ (s : Shared) (u : Value), BindsTo s fd ⟨[u], []⟩ [(x, u)])
   (hsp : ∀ H : Hp, Only H → SqL K H a (ns.map V.int) → sp [.ref a] H (fun v _ => v = .bl true) fun _ _ _ => False)
   (hCX : ∀ H e s', CX [] H s₁ (fun _ _ _ => False) e s' → False) :
   codeAny (model P w) callerA (.call (.ref fa) ⟨[.ref a], []⟩) (fun r s' => r = .ok (.ret (.bool true)) ∧ OldK s₁.heap s'.heap ∧ s'.os = s₁.os ∧ AllBare s'.gens) s₁ := by
 have rv := vals_ints hi
 have lenV := hi.length
 -- from an abstract heap in which nothing but the script may be tracked
 have core : ∀ H : Hp, Only H → SqL K H a (ns.map V.int) → HOk P w H s₁.heap → (∀ b, H b ≠ none → b = a) → (H a ≠ none → K.lookup a = none) →
     codeAny (model P w) callerA (.call (.ref fa) ⟨[.ref a], []⟩) (fun r s' => r = .ok (.ret (.bool true)) ∧ OldK s₁.heap s'.heap ∧ s'.os = s₁.os ∧ AllBare s'.gens) s₁ := by
   intro H hO hS hok hA hK
   have base_of : ∀ {b : Addr} {o : Obj}, s₁.heap.get? b = some o → H b = none → (hidT s₁.heap H).get? b = some o := fun e n => hidT_get e n
   have noA : ∀ {b : Addr} {o : Obj} {es : Array DictEntry} {ep : Nat}, s₁.heap.get? b = some o → o.data = .dict es ep → H b = none := fun {b o es ep} e d => by
     cases q : H b with
     | none => rfl
     | some u =>
       have e' : b = a := hA b (by rw [q]; simp)
       subst e'
       rw [ha] at e; cases e
       have d' : Data.seq vs.toArray _ = Data.dict es ep := d
       cases d'
   have nsK : ∀ {b : Addr} {m : Str → Option Value}, s₁.heap.Ns b m → (hidT s₁.heap H).Ns b m := fun {b m} ⟨o, es, ep, e, d, r⟩ => ⟨o, es, ep, base_of e (noA e d), d, r⟩
   have hKb : K.In (hidT s₁.heap H) := fun b o e => base_of (KX b o e) (by
     cases q : H b with
     | none => rfl
     | some u =>
       have e' : b = a := hA b (by rw [q]; simp)
       subst e'
       rw [hK (by rw [q]; simp)] at e; cases e)
   have hM : Mod K mg (hidT s₁.heap H) := ⟨hKb, nsK hns, ⟨mb, nsK hb, hbb⟩, let ⟨mc, h1, h2⟩ := hlim; ⟨mc, nsK h1, h2⟩⟩
   have e0 : Env0 P w K mg (hidT s₁.heap H) callerA [] s₁ H := ⟨rfl, hM, fun b o e => of_hidT e, Nat.le_of_eq (hidT_size _ _), trivial, fun b hb => absurd (show b ∈ ([] : List Addr) from hb) (by simp), hok, .of_eq hg⟩
   refine codeAny_mono ((F _ hKb (nsK hns)).run callerA [] s₁ H ⟨[.ref a], []⟩ [.ref a] [.ref a] _ _ hr e0 (hbind s₁ (.ref a)) (.cons rfl .nil) (hsp H hO hS)) fun r s' h => ?_
   cases r with
   | error e => exact (hCX H e s' h).elim
   | ok fl =>
     cases fl with
     | next => exact False.elim h
     | brk => exact False.elim h
     | cont => exact False.elim h
     | ret u =>
       obtain ⟨v, H', os, bare, un, hok', r', q⟩ := h
       have q' : v = .bl true := q
       subst q'
       obtain rfl : u = Value.bool true := r'
       refine ⟨rfl, OldK.of_keep fun b o e => ?_, os, bare⟩
       cases q : H b with
       | none => exact un.keep b o e q (by intro z; exact absurd (show b ∈ ([] : List Addr) from z) (by simp)) (by simp)
       | some u =>
         rcases hO b with z | ⟨ob, xs, z⟩
         · rw [q] at z; cases z
         · have z2 := un.frzs b ob _ z
           obtain ⟨e1, _⟩ := hok b _ z
           obtain ⟨e2, _⟩ := hok' b _ z2
           rw [e] at e1; cases e1
           exact e2
 cases hk : K.lookup a with
 | some o =>
   -- the script is one of the module's own objects
   have e := KX a o hk
   rw [ha] at e
   cases e
   refine core (fun _ => none) (fun _ => .inl rfl) (.inr ⟨_, vs.toArray, _, hk, rfl, rfl, rfl, by rw [List.size_toArray, lenV]; exact hl, by simpa using rv⟩) (fun b u z => by have z' : (none : Option HO) = some u := z; cases z') (fun b z => absurd rfl z) fun z => absurd rfl z
 | none =>
   refine core (fun b => if b = a then some (.frz { cls := .type "list", data := .seq vs.toArray } (.lst (ns.map V.int))) else none) (fun b => ?_) (.inl (.inr ⟨{ cls := .type "list", data := .seq vs.toArray }, if_pos rfl⟩)) (fun b u z => ?_) (fun b z => ?_) fun _ => hk
   · by_cases hb : b = a
     · exact .inr ⟨_, _, if_pos hb⟩
     · exact .inl (if_neg hb)
   · by_cases hb : b = a
     · have z' := (if_pos hb).symm.trans z
       cases z'
       subst hb
       exact ⟨ha, by rw [List.length_map]; exact hl, vs, _, rv, ha⟩
     · have z' := (if_neg hb).symm.trans z
       cases z'
   · by_cases hb : b = a
     · exact hb
     · exact absurd (if_neg hb) z
end L2

namespace L2
open PySem PySem.Spec PyProof.Rows

abbrev KOf {K : PySem.W.Frag} {h : Heap} (_ : K.In h) : PySem.W.Frag := K
theorem walk_of {l : PySem.W.OpenLaw} {n k : Nat} {q : Program} {loose : List Str} {XP : (Str → Option Value) → Heap → Prop} {YP : World → Heap → Prop} {d : DefRec} {K : Params → PySem.W.Frag} {CX : World → CXT} {sp : World → Sp} {x : Str}
   (hn : l.most = some n) (hn2 : n ≤ sizeLine) (hdf : d.params.defaults = []) (hr : Room k callerA)
   (hY : ∀ (w : World) (h : Heap), YP w h → (K w.params).In h)
   (F : ∀ (w : World) (mg : Str → Option Value) (fa : Addr) (h : Heap), (K w.params).In h → h.Ns mainGlobals mg → mg d.name = some (.ref fa) →
     ∃ fd : FuncData, (∀ (s : Shared) (u : Value), BindsTo s fd ⟨[u], []⟩ [(x, u)]) ∧
       ∀ base : Heap, (K w.params).In base → base.Ns mainGlobals mg → FnOk l.prog w (K w.params) mg base (CX w) k fa fd [x] (sp w))
   (hsp : ∀ (w : World) (H : Hp) (a : Addr) (ns : List Int), ns.length ≤ n → Only H → SqL (K w.params) H a (ns.map V.int) → sp w [.ref a] H (fun v _ => v = .bl true) fun _ _ _ => False)
   (hCX : ∀ (w : World) (H : Hp) (s : Shared) (e : Value) (s' : Shared), CX w [] H s (fun _ _ _ => False) e s' → False) :
   PySem.W.WalkO q loose XP YP l.row.toRowW d [] (fun f vs => PySem.call f vs) := by
 refine Att.attach_call hn hdf fun w s₀ s₁ mg mb fa o pm cd doc a vs ns G Y ho hd hcd hmg hobj hints hlen hg => ?_
 have KX := hY w _ Y
 obtain ⟨fd, hb, hF⟩ := F w mg fa _ KX G.T.g hmg
 exact law_call KX G.T.g G.T.b G.T.builtins G.T.nolimit hg hobj hints (Nat.le_trans hlen hn2) hr hF hb (fun H hO hS => hsp w H a ns hlen hO hS) fun H e s' => hCX w H s₁ e s'
end L2

/- THE LAST THEOREM (shape; LID, My.* are yours):
   My.Adr: a structure of the addresses that your layer names (classes, functions); My.Txt K t: a structure (Prop) of the equations over K;
   My.txt_mk : {K} {implicit addresses ..} (e1 : nsIn K mainGlobals "law" = some (some (.ref f))) (e2 : K.lookup f = some ⟨oc, od, .func (fnOf "law" "law" params body scope dV kV doc pm an cdv ct), sl⟩) (e3 : codeIn K cdv "law" = true) .. : ∃ t, My.Txt K t

set_option maxRecDepth 100000 in
set_option maxHeartbeats 0 in
theorem PySem.Challenge.cw_LID_holds : PySem.Challenge.rw_LID.Holds := by
  w_on; o_law; k_head; (case hw => w_witness2)
  k_fill
  refine L2.walk_of (l := PySem.Challenge.rw_LID) (n := 63) (k := 40) (x := "script") (CX := fun w => ..) (sp := fun _ => My.sp_law) rfl (by decide) rfl ⟨rfl, by decide, by decide⟩ (fun w h Y => PySem.W.kIn_of Y) ?F ?S ?C
  case F =>
    intro w mg fa h KX G hmg
    have T : ∃ t, My.Txt (L2.KOf KX) t := by
      dsimp only [L2.KOf]                          -- K must stand as «<heap const> w.params» for k_is
      refine' My.txt_mk ?e1 ?e2 ?e3 ..
      (case e1 => PySem.W.k_is)                    -- in the order: a name -> its address -> its object -> its parts
      (case e2 => PySem.W.k_is)
      ..
    obtain ⟨t, T⟩ := T
    have e0 := hmg.symm.trans (PySem.W.mg_of KX G T.law)
    cases e0                                       -- fa is the law's own address
    exact ⟨_, fun s u => .of_eq rfl, fun base kb nb => My.law_fn T kb nb⟩     -- if «.of_eq rfl» comes too early: refine' ⟨_, ?b, fun base kb nb => My.law_fn T kb nb⟩; exact fun s u => .of_eq rfl
  case S => exact fun w H a ns hl hO hS => ..
  case C => exact ..
(the tactic k_is has no namespace: write k_is) -/
namespace L2
open PySem PySem.Spec PyProof.Rows
def inClass (s : Stmt) (j : Nat) : Stmt := match s with
 | .ClassDef _ _ _ body _ _ _ _ _ _ _ => body.getD j (.Pass ⟨0, 0, 0, 0⟩)
 | _ => .Pass ⟨0, 0, 0, 0⟩
def defArgs (s : Stmt) : Arguments := match s with
 | .FunctionDef _ a _ _ _ _ _ _ _ _ => a
 | _ => { posonlyargs := [], args := [], vararg := none, kwonlyargs := [], kw_defaults := [], kwarg := none, defaults := [] }
def defBody (s : Stmt) : List Stmt := match s with
 | .FunctionDef _ _ b _ _ _ _ _ _ _ => b
 | _ => []
def defScope (s : Stmt) : Scope := match s with
 | .FunctionDef _ _ _ _ _ _ sc _ _ _ => sc
 | _ => { kind := .function, names := [], isGenerator := false, isCoroutine := false }
abbrev CX0 : CXT := fun _ _ _ _ _ _ => False
abbrev E0 : XK := fun _ _ _ => False
theorem pass0 {X : Cx} : Passes CX0 X E0 := fun _ _ _ _ _ _ _ h => h.elim
structure Fun (K : PySem.W.Frag) (x qual : Str) (st : Stmt) (f : Addr) (fd : FuncData) : Prop where
 ex : ∃ (oc : Value) (od : Option Addr) (kV doc pm : Value) (an : Option Addr) (cdv ct : Value) (osl : Array (Option Value)),
   fd = PySem.W.fnOf x qual (defArgs st) (defBody st) (defScope st) .none kV doc pm an cdv ct ∧ K.lookup f = some ⟨oc, od, .func fd, osl⟩ ∧ PySem.W.codeIn K cdv qual = true
 kp : PySem.W.keepIn K (.ref f) = true
section
variable {P : Program} {w : World} {K : PySem.W.Frag} {mg : Str → Option Value} {base : Heap}
theorem Fun.ok {x qual : Str} {st : Stmt} {f : Addr} {fd : FuncData} {N ps : List Str} {k : Nat} {sp : Sp} (F : Fun K x qual st f fd) (S : FnScope N ps (defScope st)) (len : ∀ vs H Q E, sp vs H Q E → vs.length = ps.length)
   (hbody : ∀ (cdv : Value) (A : Around) (outer : List Env) (s : Shared) (H : Hp) (vs : List V) (Q : VK) (E : XK), Room k (A.deeper (envOfC qual (defScope st) s.heap.objs.size f cdv)) → sp vs H Q E →
     ∃ t, PSs (cxOf CX0 P w K mg base N qual (defScope st) f cdv A outer s H E).nox (defBody st) t ∧ t { nx := fun _ H' => Q .non H', rt := Q } (start N vs) H) : FnOk P w K mg base CX0 (k + 1) f fd ps sp := by
 obtain ⟨oc, od, kV, doc, pm, an, cdv, ct, osl, rfl, lk, hcd⟩ := F.ex
 refine fn_of lk hcd S len fun A outer s H vs Q E hr hsp => ?_
 obtain ⟨t, h, q⟩ := hbody cdv A outer s H vs Q E hr hsp
 exact ⟨t, h.nox, q⟩
theorem Fun.binds {x qual : Str} {st : Stmt} {f : Addr} {fd : FuncData} {ps : List Str} (F : Fun K x qual st f fd)
   (h : ∀ (kV doc pm : Value) (an : Option Addr) (cdv ct : Value) (us : List Value), us.length = ps.length → bindArgs (PySem.W.fnOf x qual (defArgs st) (defBody st) (defScope st) .none kV doc pm an cdv ct) ⟨us, []⟩ = pure (ps.zip us)) : Binds K fd ps [] := by
 obtain ⟨oc, od, kV, doc, pm, an, cdv, ct, osl, rfl, lk, hcd⟩ := F.ex
 exact .all (h kV doc pm an cdv ct)
theorem fun_mk {x qual : Str} {st : Stmt} {f : Addr} {oc : Value} {od an : Option Addr} {osl : Array (Option Value)} {kV doc pm cdv ct : Value} (l : K.lookup f = some ⟨oc, od, .func (PySem.W.fnOf x qual (defArgs st) (defBody st) (defScope st) .none kV doc pm an cdv ct), osl⟩)
 (c : PySem.W.codeIn K cdv qual = true) (k : PySem.W.keepIn K (.ref f) = true) : Fun K x qual st f (PySem.W.fnOf x qual (defArgs st) (defBody st) (defScope st) .none kV doc pm an cdv ct) := ⟨⟨oc, od, kV, doc, pm, an, cdv, ct, osl, rfl, l, c⟩, k⟩
end
theorem hu_of {A : Around} {k : Nat} (hr : Room k A) : A.units + 1 < cLine := Nat.lt_of_le_of_lt (Nat.add_le_add_left (by decide : 1 ≤ 64) _) hr.units
section
variable {X : Cx}
theorem pv (i : Nat) {x : Str} {pos : Pos} (hN : X.N[i]? = some x := by rfl) (hv : Vis X.env.scope x := by first | exact Or.inl rfl | exact Or.inr (Or.inl rfl) | exact Or.inr (Or.inr rfl)) (hd : (x == ("__debug__" : Str)) = false := by decide)
 (hcd : (x == ("__classdict__" : Str)) = false := by decide) : PE X (.Name x pos) (tVar i) := pe_var hN hv hd hcd
end
theorem iteF {A B : Prop} (h : B) : if false = true then A else B := by
 rw [if_neg Bool.false_ne_true]
 exact h
theorem iteT {A B : Prop} (h : A) : if true = true then A else B := by
 rw [if_pos rfl]
 exact h
theorem ite2 {c A B : Prop} [Decidable c] (h1 : c → A) (h2 : ¬ c → B) : if c then A else B := by
 by_cases h : c
 · rw [if_pos h]
   exact h1 h
 · rw [if_neg h]
   exact h2 h
theorem iteNS {c A B : Prop} [Decidable c] (hc : c) (h : B) : if (!decide c) = true then A else B := by
 rw [decide_eq_true hc]
 exact iteF h
def Same (H H' : Hp) : Prop := ∀ b o, H b = some o → H' b = some o
theorem Same.refl (H : Hp) : Same H H := fun _ _ h => h
theorem Same.trans {H H1 H2 : Hp} (a : Same H H1) (b : Same H1 H2) : Same H H2 := fun c o h => b c o (a c o h)
theorem Same.free {H H' : Hp} (e : Same H H') {l : Addr} (h : H' l = Option.none) : H l = Option.none := by
 cases q : H l with
 | none => rfl
 | some o =>
   rw [e l o q] at h
   cases h
theorem Same.seq {K : PySem.W.Frag} {H H' : Hp} {a : Addr} {xs : List V} (e : Same H H') (h : SqL K H a xs) : SqL K H' a xs := by
 rcases h with (h | ⟨o, h⟩) | h
 · exact .inl (.inl (e _ _ h))
 · exact .inl (.inr ⟨o, e _ _ h⟩)
 · exact .inr h

end L2

set_option Elab.async false
set_option linter.all false
set_option maxRecDepth 100000
set_option maxHeartbeats 4000000
namespace L2
open PySem PySem.Spec PyProof.Rows
def closOf (env : Env) : List (Str × NameKind) → List (Str × Addr) → List (Str × Addr)
 | [], cs => cs
 | (n, k) :: r, cs => closOf env r (if k == .free then (n, (env.cells.lookup n).getD 0) :: cs else cs)
theorem closureFor_eq {scope : Scope} {env : Env} (h : ∀ n, (n, NameKind.free) ∈ scope.names → ∃ c, env.cells.lookup n = some c) :
   closureFor scope env = pure (closOf env scope.names []) := by
 simp only [closureFor]
 have key : ∀ (l : List (Str × NameKind)) (cs : List (Str × Addr)), (∀ n, (n, NameKind.free) ∈ l → ∃ c, env.cells.lookup n = some c) →
     (forIn l cs (fun x r => if (x.2 == NameKind.free) = true then (cellOf env x.1 >>= fun a => pure (ForInStep.yield ((x.1, a) :: r))) else pure (ForInStep.yield r)) : Sem (List (Str × Addr))) = pure (closOf env l cs) := by
   intro l
   induction l with
   | nil => intro cs _; rfl
   | cons x l ih =>
     intro cs hl
     obtain ⟨n, k⟩ := x
     have hl' : ∀ n, (n, NameKind.free) ∈ l → ∃ c, env.cells.lookup n = some c := fun n hn => hl n (List.mem_cons_of_mem _ hn)
     rw [List.forIn_cons]
     by_cases hk : k = .free
     · subst hk
       obtain ⟨c, hc⟩ := hl n List.mem_cons_self
       have e1 : cellOf env n = pure c := by unfold cellOf; rw [hc]
       simp only [beq_self_eq_true, if_true, e1, pure_bind]
       rw [ih _ hl']
       simp only [closOf, beq_self_eq_true, if_true, hc, Option.getD_some]
     · have hb : (k == NameKind.free) = false := by simpa using hk
       simp only [hb, Bool.false_eq_true, if_false, pure_bind]
       rw [ih _ hl']
       simp only [closOf, hb, Bool.false_eq_true, if_false]
 exact (congrArg (fun z => z >>= fun r => pure r) (key scope.names [] h)).trans rfl
theorem closOf_sub {env : Env} : ∀ (l : List (Str × NameKind)) (cs : List (Str × Addr)), (∀ n, (n, NameKind.free) ∈ l → ∃ c, env.cells.lookup n = some c) → (∀ x c, cs.lookup x = some c → env.cells.lookup x = some c) →
   ∀ x c, (closOf env l cs).lookup x = some c → env.cells.lookup x = some c
 | [], cs, _, h, x, c, e => h x c e
 | (n, k) :: r, cs, hl, h, x, c, e => by
   refine closOf_sub r _ (fun n hn => hl n (List.mem_cons_of_mem _ hn)) ?_ x c e
   intro y d hy
   by_cases hk : (k == NameKind.free) = true
   · rw [if_pos hk] at hy
     have hk' : k = .free := by simpa using hk
     subst hk'
     obtain ⟨c', hc'⟩ := hl n List.mem_cons_self
     rw [hc', Option.getD_some, List.lookup_cons] at hy
     cases hyn : y == n with
     | true =>
       rw [hyn] at hy
       have : y = n := by simpa using hyn
       subst this
       rw [hc']; exact hy
     | false => rw [hyn] at hy; exact h y d hy
   · rw [if_neg hk] at hy; exact h y d hy
theorem closOf_some {env : Env} : ∀ (l : List (Str × NameKind)) (cs : List (Str × Addr)) (x : Str), ((x, NameKind.free) ∈ l ∨ ∃ c, cs.lookup x = some c) → ∃ c, (closOf env l cs).lookup x = some c
 | [], cs, x, h => by
   rcases h with h | h
   · cases h
   · exact h
 | (n, k) :: r, cs, x, h => by
   refine closOf_some r _ x ?_
   rcases h with h | ⟨c, h⟩
   · rcases List.mem_cons.mp h with e | h
     · cases e
       refine .inr ⟨(env.cells.lookup n).getD 0, ?_⟩
       simp [List.lookup_cons]
     · exact .inl h
   · right
     by_cases hk : (k == NameKind.free) = true
     · rw [if_pos hk, List.lookup_cons]
       cases x == n with
       | true => exact ⟨_, rfl⟩
       | false => exact ⟨c, h⟩
     · rw [if_neg hk]; exact ⟨c, h⟩
theorem lookup_relabel {env : Env} (x : Str) : ∀ (names : List (Str × NameKind)),
   (names.map fun (n, k) => if (k == NameKind.free && env.scope.kind == .function && env.kindOf n == some .cell) then (n, NameKind.cell) else (n, k)).lookup x =
     (names.lookup x).map fun k => if (k == NameKind.free && env.scope.kind == .function && env.kindOf x == some .cell) then NameKind.cell else k
 | [] => rfl
 | (n, k) :: r => by
   have ih := lookup_relabel (env := env) x r
   show List.lookup x ((if (k == NameKind.free && env.scope.kind == .function && env.kindOf n == some .cell) = true then (n, NameKind.cell) else (n, k)) :: _) = _
   cases hx : x == n with
   | true =>
     have e : x = n := by simpa using hx
     subst e
     by_cases hc : (k == NameKind.free && env.scope.kind == .function && env.kindOf x == some .cell) = true
     · rw [if_pos hc]; simp only [List.lookup_cons, beq_self_eq_true, Option.map_some, if_pos hc]
     · rw [if_neg hc]; simp only [List.lookup_cons, beq_self_eq_true, Option.map_some, if_neg hc]
   | false =>
     by_cases hc : (k == NameKind.free && env.scope.kind == .function && env.kindOf n == some .cell) = true
     · rw [if_pos hc]; simp only [List.lookup_cons, hx]; exact ih
     · rw [if_neg hc]; simp only [List.lookup_cons, hx]; exact ih

structure CompScope (XN : List Str) (xsc : Scope) (N : List Str) (nv : Nat) (js : List Nat) (scope : Scope) : Prop where
 kind : scope.kind = .function
 cell : ∀ y ∈ scope.names, y.2 ≠ .cell
 loc : ∀ y ∈ scope.names, y.2 = .local → scope.names.lookup y.1 = some .local
 free : ∀ y ∈ scope.names, y.2 = .free → (xsc.names.lookup y.1 = some .cell ∨ xsc.names.lookup y.1 = some .free)
 nd : N.Nodup
 len : N.length = nv + js.length
 pl : js.map (fun j => XN[j]?) = (N.drop nv).map some
 fr : ∀ x ∈ N.drop nv, scope.names.lookup x = some .free

abbrev cxComp (X : Cx) (N : List Str) (scope : Scope) (C : Addr) (s : Shared) (H : Hp) (fp : List Addr) : Cx where
 prog := X.prog
 w := X.w
 K := X.K
 mg := X.mg
 base := X.base
 A := X.A
 N := N
 s₀ := s
 H₀ := H
 env := compEnvC scope (closOf X.env scope.names []) C X.env
 outer := X.stack
 stack := X.stack
 ex := fp
 fn := fun _ => false
 calm := X.calm
 pn := []
 xe := fun _ _ => False
def compSt (nv : Nat) (js : List Nat) (σ : St) : St := List.replicate nv none ++ js.map fun j => (σ[j]?).getD none

section
variable {X : Cx} {pins : List (Addr × Obj)} {σ : St} {H : Hp} {s : Shared}
theorem comp_start {N : List Str} {nv : Nat} {js : List Nat} {scope : Scope} {fp : List Addr} {h1 : Heap} {tk : Nat} (I : Inv X pins σ H s) (S : CompScope X.N X.env.scope N nv js scope) (hf : ∀ b ∈ fp, FpOk X pins H b) (hfl : ∀ b ∈ fp, b < s.heap.objs.size)
   (keep : ∀ b o, s.heap.get? b = some o → h1.get? b = some o) (ns : h1.Ns s.heap.objs.size fun _ => none) :
   Inv (cxComp X N scope s.heap.objs.size s H fp) [] (compSt nv js σ) H { s with heap := h1, toks := tk } := by
 have hfr : ∀ n, (n, NameKind.free) ∈ scope.names → ∃ c, X.env.cells.lookup n = some c := fun n hn => I.ok.has n (S.free _ hn rfl)
 have sub : ∀ x c, (closOf X.env scope.names []).lookup x = some c → X.env.cells.lookup x = some c := closOf_sub scope.names [] hfr (fun x c z => by cases z)
 have nocell : ∀ x, scope.names.lookup x ≠ some .cell := fun x z => S.cell _ (PySem.mem_of_lookup z) rfl
 have hasx : ∀ x, (relabel scope X.env).names.lookup x = some .cell ∨ (relabel scope X.env).names.lookup x = some .free → scope.names.lookup x = some .free := by
   intro x hx
   have e := lookup_relabel (env := X.env) x scope.names
   have hx' : (relabel scope X.env).names.lookup x = _ := e
   rw [hx'] at hx
   cases q : scope.names.lookup x with
   | none => rw [q] at hx; rcases hx with hx | hx <;> cases hx
   | some k =>
     rw [q, Option.map_some] at hx
     cases k <;> first | rfl | (exact absurd q (nocell x)) | (exfalso; rcases hx with hx | hx <;> simp at hx)
 refine ⟨⟨I.ok.mod, S.kind, I.ok.glob, I.ok.blt, Nat.le_refl _, fun x y c h1 h2 => I.ok.inj x y c (sub _ _ h1) (sub _ _ h2), fun x hx => ?_, fun x c z => (by cases z), I.ok.hd, I.ok.frames, .inl rfl, fun b hb => ?_, fun b o e => ?_, ?_, fun b o e hb => ?_, fun b hb z => ?_, I.stack, I.stkFree⟩,
   rfl, I.bare, Un.kept keep, ⟨_, ns, fun i x v e1 e2 e3 => ?_⟩, fun x c e => ?_, I.hok.fresh (Nat.le_refl _), fun x c e => I.freeC x c (sub _ _ e), fun p hp => absurd (show p ∈ ([] : List (Addr × Obj)) from hp) (by simp), I.hok.kept keep, ?_⟩
 · exact closOf_some _ _ _ (.inl (PySem.mem_of_lookup (hasx x hx)))
 · obtain ⟨f0, f1, f2, f3, f4, f5⟩ := hf b hb
   exact ⟨Nat.ne_of_lt (hfl b hb), fun x c e => f4 x c (sub x c e)⟩
 · exact I.bs b o e
 · exact Nat.le_trans I.ok.bsz I.sz
 · obtain ⟨f0, f1, f2, f3, f4, f5⟩ := hf b hb
   rcases f3 with z | z
   · exact I.ok.noex b o e z
   · exact absurd (Nat.lt_of_lt_of_le (Heap.lt_size e) (Nat.le_trans I.ok.bsz z)) (Nat.lt_irrefl _)
 · obtain ⟨f0, f1, f2, f3, f4, f5⟩ := hf b hb
   rcases List.mem_cons.mp (I.stkSub b z) with q | q
   · exact f1 q
   · exact f2 q
 · -- a name that the block reads from outside
   have hi : ¬ i < nv := fun hlt => by
     unfold compSt at e2
     rw [List.getElem?_append_left (by simpa using hlt), List.getElem?_replicate, if_pos hlt] at e2
     cases e2
   obtain ⟨k, rfl⟩ : ∃ k, i = nv + k := ⟨i - nv, by omega⟩
   unfold compSt at e2
   rw [List.getElem?_append_right (by simp), List.length_replicate, Nat.add_sub_cancel_left, List.getElem?_map] at e2
   cases hj : js[k]? with
   | none => rw [hj] at e2; cases e2
   | some j =>
     rw [hj, Option.map_some] at e2
     have e2' : (σ[j]?).getD none = some v := Option.some.inj e2
     have hσ : σ[j]? = some (some v) := by
       cases q : σ[j]? with
       | none => rw [q] at e2'; cases e2'
       | some z => rw [q] at e2'; exact congrArg some e2'
     have hd : (N.drop nv)[k]? = some x := by rw [List.getElem?_drop]; exact e1
     have hX : X.N[j]? = some x := by
       have q := congrArg (fun l => l[k]?) S.pl
       simp only [List.getElem?_map, hj, hd, Option.map_some] at q
       exact Option.some.inj q
     have hfx := S.fr x (List.mem_of_getElem? hd)
     have kx := S.free _ (PySem.mem_of_lookup hfx) rfl
     obtain ⟨m, _, hl⟩ := I.loc
     obtain ⟨u, r, l⟩ := hl j x v hX hσ (.inr kx)
     refine ⟨u, r, ?_⟩
     rcases l with ⟨k1, _⟩ | ⟨_, c, hc, hcell⟩
     · exfalso
       have k1' : X.env.scope.names.lookup x = some .local := k1
       rcases kx with z | z <;> (rw [k1'] at z; cases z)
     · obtain ⟨c', hc'⟩ := closOf_some (env := X.env) scope.names [] x (.inl (PySem.mem_of_lookup hfx))
       have e := sub _ _ hc'
       rw [hc] at e; cases e
       refine .inr ⟨?_, c, hc', hcell.keeps keep⟩
       have e := lookup_relabel (env := X.env) x scope.names
       have e' : (relabel scope X.env).names.lookup x = _ := e
       rw [hfx, Option.map_some] at e'
       show (relabel scope X.env).names.lookup x = some .cell ∨ (relabel scope X.env).names.lookup x = some .free
       rw [e']
       split
       · exact .inl rfl
       · exact .inr rfl
 · obtain ⟨v, q⟩ := I.cell x c (sub _ _ e)
   exact ⟨v, q.keeps keep⟩
 · unfold compSt
   show _ = N.length
   rw [List.length_append, List.length_replicate, List.length_map, S.len]
end
end L2

set_option Elab.async false
set_option linter.all false
set_option maxRecDepth 100000
set_option maxHeartbeats 4000000
namespace L2
open PySem PySem.Spec PyProof.Rows
def PIfs (X : Cx) (ifs : List Expr) (t : TT) : Prop :=
 ∀ (pins : List (Addr × Obj)) (s : Shared) (σ : St) (H : Hp) (Q : Bool → Hp → Prop), Inv X pins σ H s → t σ H Q →
   wpAny (model X.prog X.w) X.A (forIn ifs true fun c r => if r = true then do let ok ← isTrue c X.env (eval c X.env); pure (ForInStep.yield ok) else pure (ForInStep.yield r)) (TP X pins σ Q) X.xe s
def tYes : TT := fun _ H Q => Q true H
theorem pif_nil {X : Cx} : PIfs X [] tYes := fun _ _ _ H _ I h => wpAny_tests_nil ⟨H, I, h⟩
theorem pif_one {X : Cx} {c : Expr} {t : TT} (h : PT X c t) : PIfs X [c] t := fun pins s σ H Q I q => wpAny_tests_one (h pins s σ H Q I q)
def CompR (J : It) (g : TG) (tt : TT) (te : TE) (Q : VK) (D : Addr) (τ : St) (H : Hp) : Prop :=
 ∃ W : Nat → Nat → List V → St → Hp → Prop, (∃ m, W 0 m [] τ (upd H D (.lst []))) ∧ ∀ i m ys τ H, W i m ys τ H → H D = some (.lst ys) ∧
   ((J.stop i H ∧ Q (.ref D) H) ∨ (J.go i H ∧ ∃ N : List V → St → Hp → Prop, (∀ zs σ' H', N zs σ' H' → ∃ m', m' < m ∧ W (i + 1) m' zs σ' H') ∧ ∀ x H', J.yld i H x H' → g x τ H' fun τ2 H2 => tt τ2 H2 fun b H3 =>
     if b = true then te τ2 H3 fun y H4 => H4 D = some (.lst ys) ∧ ys.length < sizeLine ∧ N (ys ++ [y]) τ2 (upd H4 D (.lst (ys ++ [y])))
     else N ys τ2 H3))
def tComp (wi : TI) (g : TG) (tt : TT) (te : TE) (nv : Nat) (js : List Nat) : TE := fun σ H Q => wi σ H fun J H1 => ∀ D, H1 D = none → CompR J g tt te Q D (compSt nv js σ) H1

theorem loop_tests {prog : Program} {w : World} {A : Around} {R : Result → Shared → Prop} {s : Shared} {elt target iter : Expr} {ifs : List Expr} {scope : Scope} {pos : Pos} {it acc : Value} {env : Env} (I : Nat → Shared → Prop)
   (turn : ∀ n s, I n s → wpAny (model prog w) A (pyNext it) (fun r s₁ => match r with
     | none => R (.ok .next) s₁
     | some v => wpAny (model prog w) A (letOwnedTupleGo target it v) (fun _ s₁' => wpAny (model prog w) A (assign target env v) (fun _ s₂ =>
         wpAny (model prog w) A (forIn ifs true fun c r => if r = true then do let ok ← isTrue c env (eval c env); pure (ForInStep.yield ok) else pure (ForInStep.yield r)) (fun ok s₃ =>
           if ok = true then wpAny (model prog w) A (eval elt env) (fun x s₄ =>
             wpAny (model prog w) A (call (.builtin "list.append") [acc, x]) (fun _ s₅ => ∃ m, m < n ∧ I m s₅) (fun _ _ => False) s₄) (fun _ _ => False) s₃
           else ∃ m, m < n ∧ I m s₃) (fun _ _ => False) s₂) (fun _ _ => False) s₁') (fun _ _ => False) s₁) (fun _ _ => False) s)
   (n : Nat) (h : I n s) :
   codeAny (model prog w) A (.compLoop (.ListComp elt [⟨target, iter, ifs, 0⟩] scope pos) 0 it acc env) R s := by
 refine codeAny_loop rfl I (fun n s hI => ?_) n h
 show wpAny _ A ((compTurn (.ListComp elt [⟨target, iter, ifs, 0⟩] scope pos) 0 it acc env).onRaise (fun x => do noteFrame x env; theTreesLotGoes x)) _ _ s
 refine wpAny_noted (wpAny_mono (E := fun _ _ => False) ?_ (fun _ _ q => q) fun _ _ q => q.elim)
 rw [compTurn_list]
 refine wpAny_bind (wpAny_standAt (wpAny_bind (wpAny_mono (turn n s hI) (fun r s₁ h₁ => ?_) fun _ _ h' => h')))
 cases r with
 | none => exact wpAny_pure h₁
 | some v =>
   refine wpAny_bind (wpAny_mono h₁ (fun _ s₁' h₁' => ?_) fun _ _ h' => h')
   refine wpAny_bind (wpAny_mono h₁' (fun _ s₂ h₂ => wpAny_bind (wpAny_mono h₂ (fun ok s₃ h₃ => ?_) fun _ _ h' => h')) fun _ _ h' => h')
   cases ok with
   | false => exact wpAny_pure ⟨rfl, h₃⟩
   | true =>
     exact wpAny_bind (wpAny_bind (wpAny_mono h₃ (fun x s₄ h₄ => wpAny_bind (wpAny_mono h₄ (fun _ s₅ h₅ => wpAny_pure (wpAny_pure ⟨rfl, h₅⟩)) fun _ _ h' => h')) fun _ _ h' => h'))

section
variable {X : Cx} {elt tg iter : Expr} {ifs : List Expr} {scope : Scope} {pos : Pos} {N : List Str} {nv : Nat} {js : List Nat} {wi : TI} {g : TG} {tt : TT} {te : TE}

theorem comp_block {pins : List (Addr × Obj)} {σ : St} {H : Hp} {s : Shared} {Q : VK} {it : Addr} {fp : List Addr} {tn : Nat → Heap → Prop} {J : It} {E : Value → Shared → Prop} {RR : Value → Addr → Result → Shared → Prop} (hc : X.calm = true)
   (S : CompScope X.N X.env.scope N nv js scope) (hg : ∀ C s H fp, PG (cxComp X N scope C s H fp) tg g) (ht : ∀ C s H fp, PIfs (cxComp X N scope C s H fp) ifs tt) (he : ∀ C s H fp, PE (cxComp X N scope C s H fp) elt te)
   (I : Inv X pins σ H s) (T : Turn X.prog X.w X.K tg J fp it tn) (st : tn 0 s.heap) (hf : ∀ b ∈ fp, FpOk X pins H b) (hR : ∀ D, H D = none → CompR J g tt te Q D (compSt nv js σ) H)
   (hRR : ∀ D C H' s' m, Inv X pins σ H' s' → FpOk X pins H' C → s'.heap.Ns C m → Q (.ref D) H' → RR (.ref D) C (.ok .next) s') :
   wpAny (model X.prog X.w) X.A (newList []) (fun acc s₃ => wpAny (model X.prog X.w) X.A (newFunctionEnv scope X.env.globals (closOf X.env scope.names []) [] X.env.qual none .none (some X.env)) (fun cenv s₄ =>
     codeAny (model X.prog X.w) X.A (.compStart (.ListComp elt [⟨tg, iter, ifs, 0⟩] scope pos) 0 (.ref it) acc { cenv with scope := relabel scope X.env }) (RR acc cenv.locals) s₄) E s₃) E s := by
 refine wpAny_newObj_type (wpAny_newFunctionEnv S.cell (by intro y hy; simp at hy) (fun h₁ hns₁ hsb₁ => ?_) S.kind)
 have I3 : Inv X pins σ (upd H s.heap.objs.size (.lst [])) { s with heap := s.heap.push { cls := .type "list", data := .seq ([] : List Value).toArray } } := I.lnew (t' := s.toks) (its := []) .nil (Nat.zero_le _)
 have hD := I.fresh
 obtain ⟨W, ⟨m0, w0⟩, turn⟩ := hR s.heap.objs.size hD
 have ho := T.obj 0 s.heap st
 have hfl0 : ∀ b ∈ fp, b < s.heap.objs.size := fun b hb => let ⟨o, e, _⟩ := ho b hb; Heap.lt_size e
 have hf3 : ∀ b ∈ fp, FpOk X pins (upd H s.heap.objs.size (.lst [])) b := fun b hb => ⟨by rw [upd_ne (Nat.ne_of_lt (hfl0 b hb))]; exact (hf b hb).1, (hf b hb).2⟩
 generalize hs3 : ({ s with heap := s.heap.push { cls := .type "list", data := .seq ([] : List Value).toArray } } : Shared) = s3 at I3 hns₁ hsb₁
 have e3 : s3.heap = s.heap.push { cls := .type "list", data := .seq ([] : List Value).toArray } := by rw [← hs3]
 have hfl : ∀ b ∈ fp, b < s3.heap.objs.size := fun b hb => by rw [e3, Heap.size_push]; exact Nat.lt_succ_of_lt (hfl0 b hb)
 have keep : ∀ b o, s3.heap.get? b = some o → h₁.get? b = some o := fun b o e => hsb₁.extBut b o (Nat.ne_of_lt (Heap.lt_size e)) (Heap.get?_push_of_some _ e)
 have J0 := comp_start (tk := s3.toks + ([] : List (Str × Value)).length) I3 S hf3 hfl keep hns₁
 have st1 : tn 0 h₁ := T.keep 0 s.heap h₁ st fun b hb o e => keep b o (by rw [e3]; exact Heap.get?_push_of_some _ e)
 generalize hH3 : upd H s.heap.objs.size (.lst []) = H3 at *
 generalize hY : cxComp X N scope s3.heap.objs.size s3 H3 fp = Y at *
 have sub : ∀ x c, (closOf X.env scope.names []).lookup x = some c → X.env.cells.lookup x = some c :=
   closOf_sub scope.names [] (fun n hn => I.ok.has n (S.free _ hn rfl)) (fun x c z => by cases z)
 have stat : ∀ {H' : Hp}, (∀ b ∈ fp, H' b = none) → ∀ b ∈ fp, FpOk Y [] H' b := fun {H'} hn b hb => by
   subst hY
   obtain ⟨f0, f1, f2, f3, f4, f5⟩ := hf3 b hb
   refine ⟨hn b hb, Nat.ne_of_lt (hfl b hb), fun z => ?_, .inl hb, fun x c e => f4 x c (sub x c e), fun p hp => absurd (show p ∈ ([] : List (Addr × Obj)) from hp) (by simp)⟩
   rcases List.mem_cons.mp (I3.stkSub b z) with q | q
   · exact f1 q
   · exact f2 q
 have eA : Y.A = X.A := by subst hY; rfl
 have eP : Y.prog = X.prog := by subst hY; rfl
 have eW : Y.w = X.w := by subst hY; rfl
 have eK : Y.K = X.K := by subst hY; rfl
 have eC : Y.calm = true := by subst hY; exact hc
 have eE : Y.env = compEnvC scope (closOf X.env scope.names []) s3.heap.objs.size X.env := by subst hY; rfl
 have eXe : Y.xe = fun _ _ => False := by subst hY; rfl
 have hgY : PG Y tg g := by subst hY; exact hg _ _ _ _
 have htY : PIfs Y ifs tt := by subst hY; exact ht _ _ _ _
 have heY : PE Y elt te := by subst hY; exact he _ _ _ _
 have loop : codeAny (model X.prog X.w) X.A (.compLoop (.ListComp elt [⟨tg, iter, ifs, 0⟩] scope pos) 0 (.ref it) (.ref s.heap.objs.size) (compEnvC scope (closOf X.env scope.names []) s3.heap.objs.size X.env))
     (RR (.ref s.heap.objs.size) s3.heap.objs.size) { s3 with heap := h₁, toks := s3.toks + ([] : List (Str × Value)).length } := by
   refine loop_tests (fun n s' => ∃ i ys τ H', Inv Y [] τ H' s' ∧ tn i s'.heap ∧ (∀ b ∈ fp, H' b = none) ∧ W i n ys τ H') ?_ m0 ⟨0, [], _, H3, J0, st1, fun b hb => (hf3 b hb).1, w0⟩
   rintro n s4 ⟨i, ys, τ, H4, I4, st4, fr4, w4⟩
   obtain ⟨hDl, tr⟩ := turn i n ys τ H4 w4
   rcases tr with ⟨stop, qn⟩ | ⟨go, Nn, hNn, step⟩
   · have d := T.done Y eP eW eK eC i [] s4 τ H4 (fun _ _ => False) I4 (stat fr4) st4 stop
     rw [eA] at d
     refine thn d fun r s5 ⟨hr, I5⟩ => ?_
     subst hr
     have u : Inv X pins σ H4 s5 := by
       subst hY
       exact I3.call' (ch := fp) I5.os I5.base I5.hok I5.bare fun b hb => ⟨(hf3 b hb).2.2.2.1, (hf3 b hb).2.1, (hf3 b hb).2.2.2.2.1, (hf3 b hb).2.2.2.2.2⟩
     have hC : H4 s3.heap.objs.size = none := by have z := I5.free; rw [eE] at z; exact z
     obtain ⟨m, hn, _⟩ := I5.loc
     rw [eE] at hn
     exact hRR _ _ H4 s5 m u (I3.fpOk (Nat.le_refl _) hC) hn qn
   · have d := T.item Y eP eW eK eC i [] s4 τ H4 (fun _ _ => False) I4 (stat fr4) st4 go
     rw [eA] at d
     refine thn d fun r s5 ⟨u, hr, h5⟩ => ?_
     subst hr
     refine thn h5 fun _ s6 ⟨x, H6, I6, r6, y6, st6, fr6⟩ => ?_
     have I6' := I6.pinned (stat fr6) (T.obj _ _ st6)
     have q6 := hgY _ s6 τ H6 x u _ I6' r6 (step x H6 y6)
     rw [eP, eW, eA, eE, eXe] at q6
     refine thn q6 fun _ s7 ⟨σ7, H7, I7, q7⟩ => ?_
     have q8 := htY _ s7 σ7 H7 _ I7 q7
     rw [eP, eW, eA, eE, eXe] at q8
     refine thn q8 fun ok s8 ⟨H8, I8, q8⟩ => ?_
     have again : ∀ {σ9 : St} {H9 : Hp} {s9 : Shared} {zs : List V}, Inv Y ([] ++ pinsAt fp s6.heap) σ9 H9 s9 → (∃ m', m' < n ∧ W (i + 1) m' zs σ9 H9) → ∃ m, m < n ∧ ∃ i ys τ H', Inv Y [] τ H' s9 ∧ tn i s9.heap ∧ (∀ b ∈ fp, H' b = none) ∧ W i m ys τ H' := fun {σ9 H9 s9 zs} I9 n9 => by
       obtain ⟨m', hm, w9⟩ := n9
       refine ⟨m', hm, i + 1, zs, σ9, H9, I9.unpinned, T.keep _ _ _ st6 fun b hb o e => (I9.pin (b, o) (List.mem_append_right _ (List.mem_append_right _ (mem_pinsAt hb e)))).1, fun b hb => ?_, w9⟩
       obtain ⟨o, e, d⟩ := T.obj _ _ st6 b hb
       exact (I9.pin (b, o) (List.mem_append_right _ (List.mem_append_right _ (mem_pinsAt hb e)))).2.1
     cases ok with
     | false =>
       rw [if_neg Bool.false_ne_true]
       rw [if_neg Bool.false_ne_true] at q8
       exact again I8 (hNn _ _ _ q8)
     | true =>
       rw [if_pos rfl]
       rw [if_pos rfl] at q8
       have q9 := heY _ s8 σ7 H8 _ I8 q8
       rw [eP, eW, eA, eE, eXe] at q9
       refine thn q9 fun y s9 ⟨yv, H9, I9, r9, hD9, hz9, q9⟩ => ?_
       have ap := mt_append (X := Y) _ s9 σ7 H9 (.ref s.heap.objs.size) [yv] (.ref s.heap.objs.size) [y] (fun _ H10 => Nn (ys ++ [yv]) σ7 H10) I9 rfl (.cons r9 .nil) ⟨_, ys, yv, rfl, rfl, hD9, hz9, q9⟩
       rw [eP, eW, eA, eXe] at ap
       exact thn ap fun _ s10 ⟨_, H10, I10, _, q10⟩ => again I10 (hNn _ _ _ q10)
 subst hs3
 exact codeAny_compStart_list loop (T.self _ 0 _ _ _ st1 loop)
theorem pe_comp (hc : X.calm = true) (S : CompScope X.N X.env.scope N nv js scope) (hi : PI X tg iter wi) (hg : ∀ C s H fp, PG (cxComp X N scope C s H fp) tg g) (ht : ∀ C s H fp, PIfs (cxComp X N scope C s H fp) ifs tt)
   (he : ∀ C s H fp, PE (cxComp X N scope C s H fp) elt te) (hs : ∀ x, foldedSetIterable iter X.env x = pure x := by intro _; rfl) :
   PE X (.ListComp elt [⟨tg, iter, ifs, 0⟩] scope pos) (tComp wi g tt te nv js) := by
 intro pins s σ H Q I h
 rw [eval_ListComp]
 refine wpAny_comprehension_free (use := none) rfl hs (closureFor_eq fun n hn => I.ok.has n (S.free _ hn rfl)) S.kind S.loc (thn (hi pins s σ H _ I h) fun v s1 h1 => thn h1 fun itv s2 h2 => ?_)
 obtain ⟨it, fp, tn, J, H2, e, I2, T, st2, f2, hR⟩ := h2
 subst e
 refine comp_block (RR := fun acc C => compPost (model X.prog X.w) X.A X.xe none (EP X pins σ Q) acc C) hc S hg ht he I2 T st2 f2 hR ?_
 intro D C H' s' m I' fC hn q
 refine ⟨m, hn, fun h' sb => ⟨.ref D, H', ?_, rfl, q⟩⟩
 exact I'.turned (t' := s'.toks) (fun b o hb e => (sb.2 b hb).trans e) fC.1 fC.2.1 fC.2.2.2.1 fC.2.2.2.2.1 fC.2.2.2.2.2
theorem ps_setC {i : Nat} {x : Str} {pos' spos : Pos} (hc : X.calm = true) (hN : X.N.Nodup) (hi' : X.N[i]? = some x) (hx : X.env.scope.names.lookup x = some .local) (S : CompScope X.N X.env.scope N nv js scope) (hi : PI X tg iter wi) (hg : ∀ C s H fp, PG (cxComp X N scope C s H fp) tg g) (ht : ∀ C s H fp, PIfs (cxComp X N scope C s H fp) ifs tt)
   (he : ∀ C s H fp, PE (cxComp X N scope C s H fp) elt te) (hsw : swapsWith (.ListComp elt [⟨tg, iter, ifs, 0⟩] scope pos) (some (.Name x pos')) spos.line X.env = pure true := by rfl) (hs : ∀ x, foldedSetIterable iter X.env x = pure x := by intro _; rfl) :
   PS X (.Assign [.Name x pos'] (.ListComp elt [⟨tg, iter, ifs, 0⟩] scope pos) spos) (tAsg (tComp wi g tt te nv js) (gName i)) := by
 intro pins s σ H D I h
 rw [exec_Assign_Name_used _ _ _ _ hsw]
 refine wpAny_bind (wpAny_standAt (wpAny_bind ?_))
 show wpAny _ X.A (do let _ ← comprehension (.ListComp elt [⟨tg, iter, ifs, 0⟩] scope pos) scope X.env _ (newList []) false (eval iter X.env) (some (assign (.Name x pos') X.env))) _ _ s
 refine wpAny_bind (wpAny_mono (wpAny_comprehension_free (use := some (assign (.Name x pos') X.env)) (Q := fun _ s' => SP X pins D .next s') rfl hs (closureFor_eq fun n hn => I.ok.has n (S.free _ hn rfl)) S.kind S.loc
   (thn (hi pins s σ H _ I h) fun v s1 h1 => thn h1 fun itv s2 h2 => ?_)) (fun _ s' hq => wpAny_pure (wpAny_pure hq)) fun _ _ e => e)
 obtain ⟨it, fp, tn, J, H2, e, I2, T, st2, f2, hR⟩ := h2
 subst e
 refine comp_block (RR := fun acc C => compPost (model X.prog X.w) X.A X.xe (some (assign (.Name x pos') X.env)) (fun _ s' => SP X pins D .next s') acc C) hc S hg ht he I2 T st2 f2 hR ?_
 intro Dl C H' s' m I' fC hn q
 show wpAny _ X.A (assign (.Name x pos') X.env (.ref Dl)) _ _ _
 refine wpAny_assign_Name (store_ok2 I' hN hi' (.inl hx) (v := .ref Dl) rfl (fun s2 I3 ch => ?_) (.inr hx))
 obtain ⟨a, sb, ha⟩ := ch
 have hCa : C ≠ a := by
   rcases ha with rfl | ha
   · exact fC.2.1
   · exact (fC.2.2.2.2.1 x a ha).symm
 refine ⟨m, hn.sameBut sb hCa, fun h' sb' => ⟨_, H', ?_, q⟩⟩
 exact I3.turned (t' := s2.toks) (fun b o hb e => (sb'.2 b hb).trans e) fC.1 fC.2.1 fC.2.2.2.1 fC.2.2.2.2.1 fC.2.2.2.2.2
end
end L2

set_option Elab.async false
set_option linter.all false
set_option maxRecDepth 100000
set_option maxHeartbeats 4000000
namespace L2
open PySem PySem.Spec PyProof.Rows
section
variable {prog : Program} {w : World} {A : Around} {E : Value → Shared → Prop} {s : Shared}
end
section
variable {X : Cx} {e : Expr} {te : TE}
end
end L2

set_option Elab.async false
set_option linter.all false
set_option maxRecDepth 100000
set_option maxHeartbeats 4000000
namespace L2
open PySem PySem.Spec PyProof.Rows
def sg (c : Nat) : Str := ⟨#[c]⟩
def Its (z : Str) : It := ⟨fun i _ => i < z.cps.size, fun i H x H' => H' = H ∧ ∃ c, z.cps[i]? = some c ∧ x = .str (sg c), fun i _ => z.cps.size ≤ i⟩
theorem turn_str {P : Program} {w : World} {K : PySem.W.Frag} {tg : Expr} (it : Addr) (z : Str) (t : Tok) : Turn P w K tg (Its z) [it] it (fun i h => h.IsStrIter it (strIterType z) z t i) where
 mem := by simp
 obj := fun i h st b hb => by
   have e : b = it := by simpa using hb
   subst e
   obtain ⟨o, e, c, d⟩ := st
   exact ⟨o, e, fun v z => by rw [d] at z; cases z⟩
 keep := fun i h h' st k => by
   obtain ⟨o, e, r⟩ := st
   exact ⟨o, k it (by simp) o e, r⟩
 item := by
   intro X hP hw hK hc i pins s σ H E I hf st hg
   subst hP hw hK
   obtain ⟨f0, f1, f2, f3, f4, f5⟩ := hf it (by simp)
   have hi : i < z.cps.size := hg
   have hx : z.cps[i]? = some z.cps[i] := by simp [hi]
   cases ha : z.cps.all (· < 128) with
   | true =>
     have et : strIterType z = "str_ascii_iterator" := by simp only [strIterType, ha, if_true]
     rw [et] at st ⊢
     refine wpAny_pyNext_ascii_item st hx fun h' st' sb => ?_
     have I1 : Inv X pins σ H { s with heap := h', toks := s.toks + 1 } := I.turned (fun b o hb e => (sb.2 b hb).trans e) f0 f1 f3 f4 f5
     obtain ⟨o, e, c, d⟩ := id st'
     exact ⟨_, rfl, go_of (s := { s with heap := h', toks := s.toks + 1 }) e c d (by decide) ⟨.str (sg z.cps[i]), H, I1, ⟨_, rfl⟩, ⟨rfl, _, hx, rfl⟩, st', fun b hb => (hf b hb).1⟩⟩
   | false =>
     have et : strIterType z = "str_iterator" := by simp only [strIterType, ha, Bool.false_eq_true, if_false]
     rw [et] at st ⊢
     refine wpAny_pyNext_wide_item st hx fun h' st' sb => ?_
     have I1 : Inv X pins σ H { s with heap := h', toks := s.toks + 1 } := I.turned (fun b o hb e => (sb.2 b hb).trans e) f0 f1 f3 f4 f5
     obtain ⟨o, e, c, d⟩ := id st'
     exact ⟨_, rfl, go_of (s := { s with heap := h', toks := s.toks + 1 }) e c d (by decide) ⟨.str (sg z.cps[i]), H, I1, ⟨_, rfl⟩, ⟨rfl, _, hx, rfl⟩, st', fun b hb => (hf b hb).1⟩⟩
 done := by
   intro X hP hw hK hc i pins s σ H E I hf st hg
   subst hP hw hK
   obtain ⟨f0, f1, f2, f3, f4, f5⟩ := hf it (by simp)
   have hi : z.cps.size ≤ i := hg
   have hx : z.cps[i]? = none := by simp [hi]
   cases ha : z.cps.all (· < 128) with
   | true =>
     have et : strIterType z = "str_ascii_iterator" := by simp only [strIterType, ha, if_true]
     rw [et] at st
     exact wpAny_pyNext_ascii_end (I.ok.hd hc) st hx fun h' eb => ⟨rfl, I.turned (t' := s.toks) (fun b o hb e => eb b o hb e) f0 f1 f3 f4 f5⟩
   | false =>
     have et : strIterType z = "str_iterator" := by simp only [strIterType, ha, Bool.false_eq_true, if_false]
     rw [et] at st
     exact wpAny_pyNext_wide_end (I.ok.hd hc) st hx fun h' eb => ⟨rfl, I.turned (t' := s.toks) (fun b o hb e => eb b o hb e) f0 f1 f3 f4 f5⟩
 self := by
   intro A i s Q E st h
   cases ha : z.cps.all (· < 128) with
   | true =>
     have et : strIterType z = "str_ascii_iterator" := by simp only [strIterType, ha, if_true]
     rw [et] at st
     exact wpAny_pyIter_striter_ascii st h
   | false =>
     have et : strIterType z = "str_iterator" := by simp only [strIterType, ha, Bool.false_eq_true, if_false]
     rw [et] at st
     exact wpAny_pyIter_striter_wide st h
section
variable {X : Cx} {tg : Expr}
def iStr (tl : TE) : TI := fun σ H R => tl σ H fun x H1 => ∃ z, x = .str z ∧ R (Its z) H1
theorem pi_str {l : Expr} {tl : TE} (hl : PE X l tl) : PI X tg l (iStr tl) := by
 intro pins s σ H R I h
 refine thn (hl pins s σ H _ I h) fun v s1 ⟨x, H1, I1, r1, q1⟩ => ?_
 obtain ⟨z, e, q⟩ := q1
 subst e
 obtain ⟨t, rfl⟩ := r1
 refine wpAny_pyIter_strU ?_
 refine ⟨s1.heap.objs.size, [s1.heap.objs.size], _, _, H1, rfl, I1.kept (t' := s1.toks) fun b o e => Heap.get?_push_of_some _ e, turn_str _ z t, ⟨_, Heap.get?_push_size _ rfl, rfl, rfl⟩, fun b hb => ?_, q⟩
 have e : b = s1.heap.objs.size := by simpa using hb
 subst e
 exact I1.fpOk (Nat.le_refl _) (I1.hok.fresh (Nat.le_refl _))
end
theorem for_str {z : Str} {g : TG} {tb : TS} {D : Ends} {σ : St} {H : Hp} (Pv : Nat → St → Hp → Prop) (h0 : Pv 0 σ H)
   (hs : ∀ i c σ H, z.cps.toList[i]? = some c → Pv i σ H → g (.str (sg c)) σ H fun σ2 H2 => tb { D with nx := Pv (i + 1), ct := Pv (i + 1), bk := D.nx } σ2 H2) (hd : ∀ σ H, Pv z.cps.toList.length σ H → D.nx σ H) :
   ∃ W : Nat → Nat → St → Hp → Prop, (∃ m, W 0 m σ H) ∧ ∀ i m σ H, W i m σ H →
     ((Its z).stop i H ∧ D.nx σ H) ∨ ((Its z).go i H ∧ ∃ N : St → Hp → Prop, (∀ σ' H', N σ' H' → ∃ m', m' < m ∧ W (i + 1) m' σ' H') ∧ ∀ x H', (Its z).yld i H x H' → g x σ H' fun σ2 H2 => tb { D with nx := N, ct := N, bk := D.nx } σ2 H2) := by
 refine ⟨fun i m σ H => m = z.cps.size - i ∧ i ≤ z.cps.size ∧ Pv i σ H, ⟨z.cps.size, by simp, Nat.zero_le _, h0⟩, ?_⟩
 rintro i m σ H ⟨rfl, hi, p⟩
 by_cases hlt : i < z.cps.size
 · refine .inr ⟨hlt, Pv (i + 1), fun σ' H' p' => ⟨z.cps.size - (i + 1), by omega, rfl, hlt, p'⟩, fun x H' y => ?_⟩
   obtain ⟨e, c, hc, ex⟩ := y
   subst e ex
   exact hs i c σ _ (by simpa using hc) p
 · have e : i = z.cps.size := by omega
   subst e
   exact .inl ⟨Nat.le_refl _, hd σ H (by simpa using p)⟩
theorem comp_list {K : PySem.W.Frag} {a : Addr} {xs : List V} {g : TG} {tt : TT} {te : TE} {Q : VK} {D : Addr} {τ : St} {H : Hp} (Pv : Nat → List V → St → Hp → Prop) (h0 : Pv 0 [] τ (upd H D (.lst [])))
   (hl : ∀ i ys τ H, i ≤ xs.length → Pv i ys τ H → SqL K H a xs ∧ H D = some (.lst ys))
   (hs : ∀ i x ys τ H, xs[i]? = some x → Pv i ys τ H → g x τ H fun τ2 H2 => tt τ2 H2 fun b H3 => if b = true then te τ2 H3 fun y H4 => H4 D = some (.lst ys) ∧ ys.length < sizeLine ∧ Pv (i + 1) (ys ++ [y]) τ2 (upd H4 D (.lst (ys ++ [y]))) else Pv (i + 1) ys τ2 H3)
   (hd : ∀ ys τ H, Pv xs.length ys τ H → Q (.ref D) H) :
   CompR (Itl K a) g tt te Q D τ H := by
 refine ⟨fun i m ys τ H => m = xs.length - i ∧ i ≤ xs.length ∧ Pv i ys τ H, ⟨xs.length, by simp, Nat.zero_le _, h0⟩, ?_⟩
 rintro i m ys τ H ⟨rfl, hi, p⟩
 obtain ⟨q, hD⟩ := hl i ys τ H hi p
 refine ⟨hD, ?_⟩
 by_cases hlt : i < xs.length
 · refine .inr ⟨⟨xs, xs[i], q, by simp [hlt]⟩, Pv (i + 1), fun zs σ' H' p' => ⟨xs.length - (i + 1), by omega, rfl, hlt, p'⟩, fun x H' y => ?_⟩
   obtain ⟨e, y⟩ := y
   subst e
   exact hs i x ys τ _ (y xs q) p
 · have e : i = xs.length := by omega
   subst e
   exact .inl ⟨⟨xs, q, Nat.le_refl _⟩, hd ys τ H p⟩
theorem comp_str {z : Str} {g : TG} {tt : TT} {te : TE} {Q : VK} {D : Addr} {τ : St} {H : Hp} (Pv : Nat → List V → St → Hp → Prop) (h0 : Pv 0 [] τ (upd H D (.lst [])))
   (hl : ∀ i ys τ H, i ≤ z.cps.toList.length → Pv i ys τ H → H D = some (.lst ys))
   (hs : ∀ i c ys τ H, z.cps.toList[i]? = some c → Pv i ys τ H → g (.str (sg c)) τ H fun τ2 H2 => tt τ2 H2 fun b H3 => if b = true then te τ2 H3 fun y H4 => H4 D = some (.lst ys) ∧ ys.length < sizeLine ∧ Pv (i + 1) (ys ++ [y]) τ2 (upd H4 D (.lst (ys ++ [y]))) else Pv (i + 1) ys τ2 H3)
   (hd : ∀ ys τ H, Pv z.cps.toList.length ys τ H → Q (.ref D) H) :
   CompR (Its z) g tt te Q D τ H := by
 have hz : z.cps.toList.length = z.cps.size := by simp
 refine ⟨fun i m ys τ H => m = z.cps.size - i ∧ i ≤ z.cps.size ∧ Pv i ys τ H, ⟨z.cps.size, by simp, Nat.zero_le _, h0⟩, ?_⟩
 rintro i m ys τ H ⟨rfl, hi, p⟩
 refine ⟨hl i ys τ H (by omega) p, ?_⟩
 by_cases hlt : i < z.cps.size
 · refine .inr ⟨hlt, Pv (i + 1), fun zs σ' H' p' => ⟨z.cps.size - (i + 1), by omega, rfl, hlt, p'⟩, fun x H' y => ?_⟩
   obtain ⟨e, c, hc, ex⟩ := y
   subst e ex
   exact hs i c ys τ _ (by simpa using hc) p
 · have e : i = z.cps.size := by omega
   subst e
   exact .inl ⟨Nat.le_refl _, hd ys τ H (by rw [hz]; exact p)⟩
theorem comp_range {lo : Int} {n : Nat} {g : TG} {tt : TT} {te : TE} {Q : VK} {D : Addr} {τ : St} {H : Hp} (Pv : Nat → List V → St → Hp → Prop) (h0 : Pv 0 [] τ (upd H D (.lst [])))
   (hl : ∀ i ys τ H, i ≤ n → Pv i ys τ H → H D = some (.lst ys))
   (hs : ∀ i ys τ H, i < n → Pv i ys τ H → g (.int (lo + i)) τ H fun τ2 H2 => tt τ2 H2 fun b H3 => if b = true then te τ2 H3 fun y H4 => H4 D = some (.lst ys) ∧ ys.length < sizeLine ∧ Pv (i + 1) (ys ++ [y]) τ2 (upd H4 D (.lst (ys ++ [y]))) else Pv (i + 1) ys τ2 H3)
   (hd : ∀ ys τ H, Pv n ys τ H → Q (.ref D) H) :
   CompR (Itr lo n) g tt te Q D τ H := by
 refine ⟨fun i m ys τ H => m = n - i ∧ i ≤ n ∧ Pv i ys τ H, ⟨n, by simp, Nat.zero_le _, h0⟩, ?_⟩
 rintro i m ys τ H ⟨rfl, hi, p⟩
 refine ⟨hl i ys τ H hi p, ?_⟩
 by_cases hlt : i < n
 · refine .inr ⟨hlt, Pv (i + 1), fun zs σ' H' p' => ⟨n - (i + 1), by omega, rfl, hlt, p'⟩, fun x H' y => ?_⟩
   obtain ⟨e, y⟩ := y
   subst e y
   exact hs i ys τ _ hlt p
 · have e : i = n := by omega
   subst e
   exact .inl ⟨Nat.le_refl _, hd ys τ H p⟩
theorem strs_of : ∀ {zs : List Str} {us : List Value}, Vals (zs.map V.str) us → StrsAre us zs
 | [], _, r => by cases r; exact .nil
 | z :: zs, _, r => by
   cases r with
   | cons r1 r2 =>
     obtain ⟨t, e⟩ := r1
     subst e
     exact .cons z t (strs_of r2)
section
variable {X : Cx}
def rJoin (K : PySem.W.Frag) : V → List V → Hp → VK → Prop := fun x vs H Q => ∃ z p zs, x = .str z ∧ vs = [.ref p] ∧ SqL K H p (zs.map V.str) ∧ (zs.map (·.length)).sum + zs.length * z.length ≤ 16777216 ∧ Q (.str (Txt.join z zs)) H
theorem mt_join : MtR X "str.join" (rJoin X.K) := by
 intro pins s σ H x vs v us Q I rx rv h
 obtain ⟨z, p, zs, rfl, rfl, hq, hz, q⟩ := h
 obtain ⟨t, rfl⟩ := rx
 obtain ⟨u, rfl, ru⟩ := rv.one
 cases ru
 obtain ⟨its, r, pl, _⟩ := I.list hq
 exact join_list pl.isList (by simpa using strs_of r) hz fun t' k => ⟨.str _, H, I.tok k, ⟨t', rfl⟩, q⟩
theorem call_isinst : CallR X (.builtin "isinstance") (fun xs H Q => ∃ x c t b, xs = [x, c] ∧ TyOf X.K H x t ∧ ((∃ n, c = .ty n ∧ PySem.W.kitOne X.K t (.type n) = some b) ∨ (∃ a, c = .ref a ∧ PySem.W.kitOne X.K t (.ref a) = some b)) ∧ Q (.bl b) H) := by
 intro pins s σ H xs us Q I r h
 obtain ⟨x, c, t, b, rfl, ty, hc, q⟩ := h
 obtain ⟨u, w', rfl, ru, rw'⟩ := vals2 r
 rcases hc with ⟨n, rfl, e⟩ | ⟨a, rfl, e⟩
 · cases rw'
   exact isinst_ok I ru ty e fun tk => ⟨.bl b, H, I.tok tk, rfl, q⟩
 · cases rw'
   exact isinst_ok I ru ty e fun tk => ⟨.bl b, H, I.tok tk, rfl, q⟩
end
section
variable {X : Cx}
def rNeL (K : PySem.W.Frag) : R2 := fun x y H Q => ∃ a b xs, x = .ref a ∧ y = .ref b ∧ SqL K H a xs ∧ SqL K H b [] ∧ Q (.bl (!xs.isEmpty)) H
theorem op_neL (hu : X.A.units < cLine) : OpR X (compareOp .NotEq) (rNeL X.K) := by
 intro pins s σ H x y v u Q I rx ry h
 obtain ⟨a, b, xs, rfl, rfl, ha, hb, q⟩ := h
 cases rx
 cases ry
 obtain ⟨its, r1, p1, _⟩ := I.list ha
 obtain ⟨its2, r2, p2, _⟩ := I.list hb
 cases r2
 show wpAny _ _ (richCompare .NotEq (.ref a) (.ref b)) _ _ _
 cases xs with
 | nil =>
   cases r1
   refine SeqAt.RcNeAt.lists (e := fun _ => true) p1.isList p2.isList rfl hu (fun j h1 _ => absurd h1 (by simp)) _ _ _ _ ⟨.bl false, H, I, ?_, q⟩
   simp [RelV]
 | cons x xs =>
   cases r1 with
   | cons r rr =>
     exact SeqAt.RcNeAt.lists_lengths p1.isList p2.isList (by simp) hu _ _ _ _ ⟨.bl true, H, I, rfl, q⟩
end
end L2

set_option Elab.async false
set_option linter.all false
set_option maxRecDepth 100000
set_option maxHeartbeats 4000000
namespace L2
open PySem PySem.Spec PyProof.Rows
section
variable {X : Cx} (K : PySem.W.Frag) (h : X.K = K)
include h
theorem ixK_list : IxR X (rIxL K) := by subst h; exact ix_list
theorem ixK_tup : IxR X (rIxT K) := by subst h; exact ix_tup
theorem slK_list : SlR X (rSlL K) := by subst h; exact sl_list
theorem mtK_join : MtR X "str.join" (rJoin K) := by subst h; exact mt_join
theorem callK_len_seq : CallR X (.builtin "len") (fun xs H Q => ∃ p ys, xs = [.ref p] ∧ (SqL K H p ys ∨ SqT K H p ys) ∧ Q (.int ys.length) H) := by subst h; exact call_len_seq
theorem callK_isinst : CallR X (.builtin "isinstance") (fun xs H Q => ∃ x c t b, xs = [x, c] ∧ TyOf K H x t ∧ ((∃ n, c = .ty n ∧ PySem.W.kitOne K t (.type n) = some b) ∨ (∃ a, c = .ref a ∧ PySem.W.kitOne K t (.ref a) = some b)) ∧ Q (.bl b) H) := by subst h; exact call_isinst
theorem callK_list_of : CallR X (.type "list") (fun xs H Q => ∃ p ys, xs = [.ref p] ∧ (SqL K H p ys ∨ SqT K H p ys) ∧ ∀ l, H l = none → Q (.ref l) (upd H l (.lst ys))) := by subst h; exact call_list_of
theorem callK_tuple_of : CallR X (.type "tuple") (fun xs H Q => ∃ p ys, xs = [.ref p] ∧ ((SqL K H p ys ∧ ∀ l, H l = none → Q (.ref l) (upd H l (.tup ys))) ∨ (SqT K H p ys ∧ Q (.ref p) H))) := by subst h; exact call_tuple_of
theorem opK_neL (hu : X.A.units < cLine) : OpR X (compareOp .NotEq) (rNeL K) := by subst h; exact op_neL hu
theorem piK_list {tg l : Expr} {tl : TE} (hl : PE X l tl) : PI X tg l (iList K tl) := by subst h; exact pi_list hl
theorem piK_tup {tg l : Expr} {tl : TE} (hl : PE X l tl) : PI X tg l (iTup K tl) := by subst h; exact pi_tup hl
theorem pgK_tup {es : List Expr} {k : Nat} {pos : Pos} {t : TGs} (n : Nat) (hc : X.calm = true) (hh : PGs X es t)
 (hn : (assignEach es X.env).length = n := by rfl) (hst : (assignEach es X.env).findIdx? (·.1) = none := by rfl) : PG X (.Tuple es k pos) (gTup K n t) := by subst h; exact pg_tup hc hh hn hst
theorem peK_fld {e : Expr} {ta : TE} {f : Str} {pos : Pos} (he : PE X e ta) (hb : attributeBase e f X.env (eval e X.env) = eval e X.env) : PE X (.Attribute e f pos) (tFld K ta f) := by subst h; exact pe_fld he hb
theorem peK_bm {o e : Expr} {es : List Expr} {to : TE} {t : TA} {name : Str} {apos cpos : Pos} {T id : String} {r : V → List V → Hp → VK → Prop} (pa : PlainAttrs T) (slot : Slot T name id) (hty : typeOf (.builtin id) = pure (.type "method_descriptor")) (hm : MtR X id r) (ho : PE X o to) (ha : PA X (e :: es) t)
 (hbase : attributeBase o name X.env (eval o X.env) = eval o X.env := by rfl)
 (hfew : ((backTo cpos (starEach (e :: es) X.env)).all (fun x => !x.1) && (backToKw cpos (keywordEach [] X.env)).all (fun x => x.1.isSome)
   && decide ((e :: es).length + ([] : List Keyword).length + (if ([] : List Keyword).isEmpty then 0 else 1) < 30)) = true := by rfl)
 (hline : (apos.endLine == cpos.line) = true := by rfl) (hs : starEach (e :: es) X.env = (false, eval e X.env) :: starEach es X.env := by rfl) (hplain : (backTo cpos (starEach es X.env)).any (·.1) = false := by rfl) :
 PE X (.Call (.Attribute o name apos) (e :: es) [] cpos) (tBM K T r to t) := by subst h; exact pe_bm pa slot hty hm ho ha hbase hfew hline hs hplain
end
section
variable {X : Cx}
theorem pe_gstr {x : Str} {z : Str} {t : Tok} {pos : Pos} (hg : Gl X x) (hm : X.mg x = some (.str z t)) (hd : (x == ("__debug__" : Str)) = false := by decide) : PE X (.Name x pos) (tC (.str z)) := pe_glob hg hm ⟨t, rfl⟩ hd
theorem pe_gref {x : Str} {a : Addr} {pos : Pos} (hg : Gl X x) (hm : X.mg x = some (.ref a)) (hd : (x == ("__debug__" : Str)) = false := by decide) : PE X (.Name x pos) (tC (.ref a)) := pe_glob hg hm rfl hd
theorem pe_bty (n : String) {x : Str} {pos : Pos} (hg : Gl X x) (hm : X.mg x = none) (hv : bootBuiltins x = some (.type n)) (hn : x ≠ "__name__" := by decide) (hd : (x == ("__debug__" : Str)) = false := by decide) : PE X (.Name x pos) (tC (.ty n)) := pe_bltn hg hm hv rfl hn hd
end
end L2

set_option Elab.async false
set_option linter.all false
set_option maxRecDepth 100000
set_option maxHeartbeats 4000000
namespace L2
open PySem PySem.Spec PyProof.Rows
structure FunD (K : PySem.W.Frag) (x qual : Str) (st : Stmt) (f : Addr) (fd : FuncData) (dV : Value) : Prop where
 ex : ∃ (oc : Value) (od : Option Addr) (kV doc pm : Value) (an : Option Addr) (cdv ct : Value) (osl : Array (Option Value)),
   fd = PySem.W.fnOf x qual (defArgs st) (defBody st) (defScope st) dV kV doc pm an cdv ct ∧ K.lookup f = some ⟨oc, od, .func fd, osl⟩ ∧ PySem.W.codeIn K cdv qual = true
 kp : PySem.W.keepIn K (.ref f) = true
section
variable {P : Program} {w : World} {K : PySem.W.Frag} {mg : Str → Option Value} {base : Heap}
theorem FunD.ok {x qual : Str} {st : Stmt} {f : Addr} {fd : FuncData} {dV : Value} {N ps : List Str} {k : Nat} {sp : Sp} (F : FunD K x qual st f fd dV) (S : FnScope N ps (defScope st)) (len : ∀ vs H Q E, sp vs H Q E → vs.length = ps.length)
   (hbody : ∀ (cdv : Value) (A : Around) (outer : List Env) (s : Shared) (H : Hp) (vs : List V) (Q : VK) (E : XK), Room k (A.deeper (envOfC qual (defScope st) s.heap.objs.size f cdv)) → sp vs H Q E →
     ∃ t, PSs (cxOf CX0 P w K mg base N qual (defScope st) f cdv A outer s H E).nox (defBody st) t ∧ t { nx := fun _ H' => Q .non H', rt := Q } (start N vs) H) : FnOk P w K mg base CX0 (k + 1) f fd ps sp := by
 obtain ⟨oc, od, kV, doc, pm, an, cdv, ct, osl, rfl, lk, hcd⟩ := F.ex
 refine fn_of lk hcd S len fun A outer s H vs Q E hr hsp => ?_
 obtain ⟨t, h, q⟩ := hbody cdv A outer s H vs Q E hr hsp
 exact ⟨t, h.nox, q⟩
theorem FunD.binds {x qual : Str} {st : Stmt} {f : Addr} {fd : FuncData} {dV : Value} {ps : List Str} (F : FunD K x qual st f fd dV)
   (h : ∀ (kV doc pm : Value) (an : Option Addr) (cdv ct : Value) (us : List Value), us.length = ps.length → bindArgs (PySem.W.fnOf x qual (defArgs st) (defBody st) (defScope st) dV kV doc pm an cdv ct) ⟨us, []⟩ = pure (ps.zip us)) : Binds K fd ps [] := by
 obtain ⟨oc, od, kV, doc, pm, an, cdv, ct, osl, rfl, lk, hcd⟩ := F.ex
 exact .all (h kV doc pm an cdv ct)
theorem funD_mk {x qual : Str} {st : Stmt} {f : Addr} {oc dV : Value} {od an : Option Addr} {osl : Array (Option Value)} {kV doc pm cdv ct : Value} (l : K.lookup f = some ⟨oc, od, .func (PySem.W.fnOf x qual (defArgs st) (defBody st) (defScope st) dV kV doc pm an cdv ct), osl⟩)
 (c : PySem.W.codeIn K cdv qual = true) (k : PySem.W.keepIn K (.ref f) = true) : FunD K x qual st f (PySem.W.fnOf x qual (defArgs st) (defBody st) (defScope st) dV kV doc pm an cdv ct) dV := ⟨⟨oc, od, kV, doc, pm, an, cdv, ct, osl, rfl, l, c⟩, k⟩
end
section
variable {X : Cx}
theorem vals_bl_get : ∀ {bs : List Bool} {us : List Value} {i : Nat} {u : Value}, Vals (bs.map V.bl) us → us[i]? = some u → u = .bool (bs.getD i true)
 | [], _, _, _, r, e => by cases r; simp at e
 | b :: bs, _, i, u, r, e => by
   cases r with
   | cons r1 r2 =>
     cases i with
     | zero => simp at e; subst e; exact r1
     | succ i => simp at e; simpa using vals_bl_get r2 e
theorem all_range (bs : List Bool) : ((List.range bs.length).all fun i => bs.getD i true) = bs.all id := by
 rw [Bool.eq_iff_iff, List.all_eq_true, List.all_eq_true]
 constructor
 · intro h b hb
   obtain ⟨i, hi, rfl⟩ := List.mem_iff_getElem.mp hb
   have := h i (by simpa using hi)
   simpa [List.getD, hi] using this
 · intro h i hi
   have hi' : i < bs.length := by simpa using hi
   have := h bs[i] (List.getElem_mem hi')
   simpa [List.getD, hi'] using this
def rAll (K : PySem.W.Frag) : List V → Hp → VK → Prop := fun xs H Q => ∃ (p : Addr) (bs : List Bool), xs = [.ref p] ∧ SqL K H p (bs.map V.bl) ∧ Q (.bl (bs.all id)) H
theorem call_all (hc : X.calm = true) : CallR X (.builtin "all") (rAll X.K) := by
 intro pins s σ H xs us Q I r h
 obtain ⟨p, bs, rfl, hq, q⟩ := h
 obtain ⟨u, rfl, ru⟩ := vals1 r
 cases ru
 obtain ⟨its, rv, pl, hz⟩ := I.list hq
 have hlen := rv.length
 rw [List.length_map] at hlen
 have hpl : p < s.heap.objs.size := by obtain ⟨o, ho, _⟩ := pl.isList; exact Heap.lt_size ho
 refine call_all_walk (wpAny_pyIter_list pl.isList ⟨s.heap.objs.size, _, _, _, _, _, fun i => bs.getD i true, rfl, Walks.list (A := X.A.in1) (show X.A.in1.handled = none from I.ok.hd hc) s.heap.objs.size p (Nat.ne_of_lt hpl) its.toArray, ⟨⟨_, Heap.get?_push_size _ rfl, rfl, rfl⟩, pl.isList.at fun o e => Heap.get?_push_of_some _ e⟩, ?_, ?_⟩)
 · intro i v s' Q' E' hv hq'
   have e : its[i]? = some v := by simpa using hv
   rw [vals_bl_get rv e]
   exact wpAny_truthy_bool hq'
 · intro h' tk hk
   have f0 := I.fpOk (Nat.le_refl s.heap.objs.size) (I.hok.fresh (Nat.le_refl _))
   have I2 : Inv X pins σ H { s with heap := s.heap.push { cls := .type "list_iterator", data := .fields #[.ref p, rawInt 0] } } := I.kept (t' := s.toks) fun b o e => Heap.get?_push_of_some _ e
   have I3 := I2.turned (h' := h') (t' := tk) (it := s.heap.objs.size) (fun b o hb e => hk b o (by simpa using hb) e) f0.1 f0.2.1 f0.2.2.2.1 f0.2.2.2.2.1 f0.2.2.2.2.2
   refine ⟨.bl (bs.all id), H, I3, ?_, q⟩
   show Value.bool _ = Value.bool _
   rw [List.size_toArray, ← hlen, all_range]
theorem callK_all (K : PySem.W.Frag) (h : X.K = K) (hc : X.calm = true) : CallR X (.builtin "all") (rAll K) := by subst h; exact call_all hc
def rCount : V → List V → Hp → VK → Prop := fun x vs H Q => ∃ (z : Str) (c : Nat), x = .str z ∧ vs = [.str (sg c)] ∧ Q (.int (PyProof.Rows.cnt c z.cps.toList)) H
theorem mt_count : MtR X "str.count" rCount := by
 intro pins s σ H x vs v us Q I rx rv h
 obtain ⟨z, c, rfl, rfl, q⟩ := h
 obtain ⟨t, rfl⟩ := rx
 obtain ⟨u, rfl, ru⟩ := rv.one
 obtain ⟨t', rfl⟩ := ru
 exact SC.count ⟨.int _, H, I.tok _, ⟨_, rfl⟩, by
   have e : Txt.count z (sg c) = PyProof.Rows.cnt c z.cps.toList := PyProof.Rows.count_is z c
   rw [e]; exact q⟩
theorem cnt_one : ∀ {l : List Nat} {c : Nat}, l.Nodup → c ∈ l → PyProof.Rows.cnt c l = 1
 | [], _, _, h => by cases h
 | n :: r, c, nd, h => by
   rw [PyProof.Rows.cnt_cons]
   obtain ⟨n1, n2⟩ := List.nodup_cons.mp nd
   by_cases e : n = c
   · subst e
     rw [if_pos rfl, PyProof.Rows.cnt_none _ _ n1]; rfl
   · rw [if_neg e, cnt_one n2 ((List.mem_cons.mp h).resolve_left (Ne.symm e))]; rfl
def eqVs : List V → List V → Bool
 | [], [] => true
 | x :: xs, y :: ys => eqV x y && eqVs xs ys
 | _, _ => false
theorem eqV_self : ∀ {x : V}, flatV x = true → eqV x x = true
 | .non, _ => rfl
 | .bl b, _ => by cases b <;> rfl
 | .int i, _ => by simp [eqV]
 | .str z, _ => by simp [eqV]
def eAt (xs ys : List V) (j : Nat) : Bool := match xs[j]?, ys[j]? with
 | some x, some y => eqV x y
 | _, _ => true
theorem range_eqVs : ∀ (xs ys : List V), ((List.range (min xs.length ys.length)).all (eAt xs ys) && xs.length == ys.length) = eqVs xs ys
 | [], [] => rfl
 | [], _ :: _ => by simp [eqVs]
 | _ :: _, [] => by simp [eqVs]
 | x :: xs, y :: ys => by
   have ih := range_eqVs xs ys
   have e : min (x :: xs).length (y :: ys).length = min xs.length ys.length + 1 := by rw [List.length_cons, List.length_cons]; omega
   rw [e, List.range_succ_eq_map, List.all_cons, List.all_map]
   have e2 : (eAt (x :: xs) (y :: ys) ∘ Nat.succ) = eAt xs ys := by funext j; simp [eAt]
   rw [e2]
   unfold eqVs
   rw [← ih]
   have e3 : ((x :: xs).length == (y :: ys).length) = (xs.length == ys.length) := by simp
   rw [e3]
   show (eqV x y && _ && _) = _
   rw [Bool.and_assoc]
def rEqT (K : PySem.W.Frag) : R2 := fun x y H Q => ∃ a b xs ys, x = .ref a ∧ y = .ref b ∧ SqT K H a xs ∧ SqT K H b ys ∧ xs.all flatV = true ∧ ys.all flatV = true ∧ Q (.bl (eqVs xs ys)) H
theorem items_eqAt {A : Around} {s : Shared} {xs ys : List V} {us ws : List Value} (r1 : Vals xs us) (r2 : Vals ys ws) (f1 : xs.all flatV = true) (f2 : ys.all flatV = true) (j : Nat) (h1 : j < us.toArray.size) (h2 : j < ws.toArray.size) :
   SeqAt.EqAt A s us.toArray[j] ws.toArray[j] (eAt xs ys j) := by
 have hl1 := r1.length
 have hl2 := r2.length
 have hj1 : j < xs.length := by rw [hl1]; simpa using h1
 have hj2 : j < ys.length := by rw [hl2]; simpa using h2
 obtain ⟨u, eu, ru⟩ := r1.get (i := j) (x := xs[j]) (by simp [hj1])
 obtain ⟨w, ew, rw'⟩ := r2.get (i := j) (x := ys[j]) (by simp [hj2])
 have e1 : us.toArray[j] = u := by
   have := List.getElem?_eq_some_iff.mp eu
   obtain ⟨_, q⟩ := this
   simpa using q
 have e2 : ws.toArray[j] = w := by
   have := List.getElem?_eq_some_iff.mp ew
   obtain ⟨_, q⟩ := this
   simpa using q
 rw [e1, e2]
 have e3 : eAt xs ys j = eqV xs[j] ys[j] := by simp [eAt, hj1, hj2]
 rw [e3]
 exact eqAt_V ru rw' (List.all_eq_true.mp f1 _ (List.getElem_mem hj1)) (List.all_eq_true.mp f2 _ (List.getElem_mem hj2))
theorem op_eqT (K : PySem.W.Frag) (hK : X.K = K) (hu : X.A.units < cLine) : OpR X (compareOp .Eq) (rEqT K) := by
 subst hK
 intro pins s σ H x y v u Q I rx ry h
 obtain ⟨a, b, xs, ys, rfl, rfl, ha, hb, f1, f2, q⟩ := h
 cases rx
 cases ry
 obtain ⟨its, r1, p1, _⟩ := I.tuple ha
 obtain ⟨its2, r2, p2, _⟩ := I.tuple hb
 refine SeqAt.eq_tupleAt (e := eAt xs ys) p1 p2 hu (fun j h1 h2 => items_eqAt r1 r2 f1 f2 j h1 h2) ⟨.bl _, H, I, ?_, q⟩
 show Value.bool _ = Value.bool _
 rw [List.size_toArray, List.size_toArray, ← r1.length, ← r2.length, range_eqVs]
end
end L2

set_option Elab.async false
set_option linter.all false
set_option maxRecDepth 100000
set_option maxHeartbeats 4000000
namespace L2
open PySem PySem.Spec PyProof.Rows
inductive SameD (K : PySem.W.Frag) (H : Hp) : Nat → V → V → Prop where
 | flat {n : Nat} {x y : V} : flatV x = true → flatV y = true → eqV x y = true → SameD K H n x y
 | ref {n : Nat} {a : Addr} : SameD K H n (.ref a) (.ref a)
 | tup {n : Nat} {a b : Addr} {xs ys : List V} : SqT K H a xs → SqT K H b ys → xs.length = ys.length → (∀ (j : Nat) x y, xs[j]? = some x → ys[j]? = some y → SameD K H n x y) → SameD K H (n + 1) (.ref a) (.ref b)
 | lst {n : Nat} {a b : Addr} {xs ys : List V} : SqL K H a xs → SqL K H b ys → xs.length = ys.length → (∀ (j : Nat) x y, xs[j]? = some x → ys[j]? = some y → SameD K H n x y) → SameD K H (n + 1) (.ref a) (.ref b)
theorem all_true (n : Nat) : (List.range n).all (fun _ => true) = true := by rw [List.all_eq_true]; intro _ _; rfl
section
variable {X : Cx} {pins : List (Addr × Obj)} {σ : St} {H : Hp} {s : Shared}
theorem items_same {A : Around} {R : V → V → Prop} {xs ys : List V} {us ws : List Value} (r1 : Vals xs us) (r2 : Vals ys ws) (h : ∀ (j : Nat) x y u w, xs[j]? = some x → ys[j]? = some y → RelV x u → RelV y w → SeqAt.EqAt A s u w true) (j : Nat) (h1 : j < us.toArray.size) (h2 : j < ws.toArray.size) :
   SeqAt.EqAt A s us.toArray[j] ws.toArray[j] true := by
 have hl1 := r1.length
 have hl2 := r2.length
 have hj1 : j < xs.length := by rw [hl1]; simpa using h1
 have hj2 : j < ys.length := by rw [hl2]; simpa using h2
 obtain ⟨u, eu, ru⟩ := r1.get (i := j) (x := xs[j]) (by simp [hj1])
 obtain ⟨w, ew, rw'⟩ := r2.get (i := j) (x := ys[j]) (by simp [hj2])
 have e1 : us.toArray[j] = u := by
   obtain ⟨_, q⟩ := List.getElem?_eq_some_iff.mp eu
   simpa using q
 have e2 : ws.toArray[j] = w := by
   obtain ⟨_, q⟩ := List.getElem?_eq_some_iff.mp ew
   simpa using q
 rw [e1, e2]
 exact h j _ _ u w (by simp [hj1]) (by simp [hj2]) ru rw'
theorem eqAt_same (I : Inv X pins σ H s) {n : Nat} {x y : V} (h : SameD X.K H n x y) : ∀ {A : Around} {u v : Value}, A.units + n < cLine → RelV x u → RelV y v → SeqAt.EqAt A s u v true := by
 induction h with
 | flat f1 f2 e => intro A u v _ ru rv; rw [← e]; exact eqAt_V ru rv f1 f2
 | ref => intro A u v _ ru rv; cases ru; cases rv; exact SeqAt.EqAt.same _
 | @tup n a b xs ys ha hb hl _ ih =>
   intro A u v hu ru rv
   cases ru; cases rv
   by_cases e : a = b
   · subst e; exact SeqAt.EqAt.same _
   · obtain ⟨its, r1, p1, _⟩ := I.tuple ha
     obtain ⟨its2, r2, p2, _⟩ := I.tuple hb
     refine SeqAt.EqAt.of_refs e ?_
     have q := SeqAt.RcAt.tuples (A := A) (e := fun _ => true) p1 p2 (by omega) fun j h1 h2 => items_same (R := fun _ _ => True) r1 r2 (fun j x y u w ex ey ru rw' => ih j x y ex ey (by show A.units + 1 + n < cLine; omega) ru rw') j h1 h2
     have e2 : ((List.range (min its.toArray.size its2.toArray.size)).all (fun _ => true) && its.toArray.size == its2.toArray.size) = true := by
       rw [all_true, List.size_toArray, List.size_toArray, ← r1.length, ← r2.length, hl]; simp
     rw [e2] at q
     exact q
 | @lst n a b xs ys ha hb hl _ ih =>
   intro A u v hu ru rv
   cases ru; cases rv
   by_cases e : a = b
   · subst e; exact SeqAt.EqAt.same _
   · obtain ⟨its, r1, p1, _⟩ := I.list ha
     obtain ⟨its2, r2, p2, _⟩ := I.list hb
     refine SeqAt.EqAt.of_refs e ?_
     have q := SeqAt.RcAt.lists (A := A) (e := fun _ => true) p1.isList p2.isList (by rw [List.size_toArray, List.size_toArray, ← r1.length, ← r2.length, hl]) (by omega) fun j h1 h2 => items_same (R := fun _ _ => True) r1 r2 (fun j x y u w ex ey ru rw' => ih j x y ex ey (by show A.units + 1 + n < cLine; omega) ru rw') j h1 h2
     rw [all_true] at q
     exact q
end
section
variable {X : Cx}
def TopD (K : PySem.W.Frag) (H : Hp) (x y : V) : Prop := ∃ (n : Nat) (a b : Addr) (xs ys : List V), x = .ref a ∧ y = .ref b ∧ n ≤ 50 ∧ xs.length = ys.length ∧ ((SqT K H a xs ∧ SqT K H b ys) ∨ (SqL K H a xs ∧ SqL K H b ys)) ∧ ∀ (j : Nat) x y, xs[j]? = some x → ys[j]? = some y → SameD K H n x y
def rEqS (K : PySem.W.Frag) : R2 := fun x y H Q => TopD K H x y ∧ Q (.bl true) H
def rNeS (K : PySem.W.Frag) : R2 := fun x y H Q => TopD K H x y ∧ Q (.bl false) H
theorem op_eqS (K : PySem.W.Frag) (hK : X.K = K) (hu : X.A.units + 64 < cLine) : OpR X (compareOp .Eq) (rEqS K) := by
 subst hK
 intro pins s σ H x y v u Q I rx ry h
 obtain ⟨⟨n, a, b, xs, ys, rfl, rfl, hn, hl, hk, hs⟩, q⟩ := h
 cases rx; cases ry
 rcases hk with ⟨ha, hb⟩ | ⟨ha, hb⟩
 · obtain ⟨its, r1, p1, _⟩ := I.tuple ha
   obtain ⟨its2, r2, p2, _⟩ := I.tuple hb
   refine SeqAt.eq_tupleAt (e := fun _ => true) p1 p2 (by omega) (fun j h1 h2 => items_same (R := fun _ _ => True) r1 r2 (fun j x y u w ex ey ru rw' => eqAt_same I (hs j x y ex ey) (by show X.A.units + 1 + n < cLine; omega) ru rw') j h1 h2) ⟨.bl true, H, I, ?_, q⟩
   show Value.bool _ = Value.bool _
   rw [all_true, List.size_toArray, List.size_toArray, ← r1.length, ← r2.length, hl]; simp
 · obtain ⟨its, r1, p1, _⟩ := I.list ha
   obtain ⟨its2, r2, p2, _⟩ := I.list hb
   refine SeqAt.eq_listAt (e := fun _ => true) p1.isList p2.isList (by rw [List.size_toArray, List.size_toArray, ← r1.length, ← r2.length, hl]) (by omega) (fun j h1 h2 => items_same (R := fun _ _ => True) r1 r2 (fun j x y u w ex ey ru rw' => eqAt_same I (hs j x y ex ey) (by show X.A.units + 1 + n < cLine; omega) ru rw') j h1 h2) ⟨.bl true, H, I, ?_, q⟩
   show Value.bool _ = Value.bool _
   rw [all_true]
theorem op_neS (K : PySem.W.Frag) (hK : X.K = K) (hu : X.A.units + 64 < cLine) : OpR X (compareOp .NotEq) (rNeS K) := by
 subst hK
 intro pins s σ H x y v u Q I rx ry h
 obtain ⟨⟨n, a, b, xs, ys, rfl, rfl, hn, hl, hk, hs⟩, q⟩ := h
 cases rx; cases ry
 show wpAny _ _ (richCompare .NotEq (.ref a) (.ref b)) _ _ _
 rcases hk with ⟨ha, hb⟩ | ⟨ha, hb⟩
 · obtain ⟨its, r1, p1, _⟩ := I.tuple ha
   obtain ⟨its2, r2, p2, _⟩ := I.tuple hb
   refine SeqAt.RcNeAt.tuples (e := fun _ => true) p1 p2 (by omega) (fun j h1 h2 => items_same (R := fun _ _ => True) r1 r2 (fun j x y u w ex ey ru rw' => eqAt_same I (hs j x y ex ey) (by show X.A.units + 1 + n < cLine; omega) ru rw') j h1 h2) _ _ _ _ ⟨.bl false, H, I, ?_, q⟩
   show Value.bool _ = Value.bool _
   rw [all_true, List.size_toArray, List.size_toArray, ← r1.length, ← r2.length, hl]; simp
 · obtain ⟨its, r1, p1, _⟩ := I.list ha
   obtain ⟨its2, r2, p2, _⟩ := I.list hb
   refine SeqAt.RcNeAt.lists (e := fun _ => true) p1.isList p2.isList (by rw [List.size_toArray, List.size_toArray, ← r1.length, ← r2.length, hl]) (by omega) (fun j h1 h2 => items_same (R := fun _ _ => True) r1 r2 (fun j x y u w ex ey ru rw' => eqAt_same I (hs j x y ex ey) (by show X.A.units + 1 + n < cLine; omega) ru rw') j h1 h2) _ _ _ _ ⟨.bl false, H, I, ?_, q⟩
   show Value.bool _ = Value.bool _
   rw [all_true]; rfl
def rIsSeq (K : PySem.W.Frag) : List V → Hp → VK → Prop := fun xs H Q => ∃ (a : Addr) (c : String) (ys : List V) (b : Bool), xs = [.ref a, .ty c] ∧ ((SqT K H a ys ∧ PySem.W.kitOne K (.type "tuple") (.type c) = some b) ∨ (SqL K H a ys ∧ PySem.W.kitOne K (.type "list") (.type c) = some b)) ∧ Q (.bl b) H
theorem callK_isseq (K : PySem.W.Frag) (hK : X.K = K) : CallR X (.builtin "isinstance") (rIsSeq K) := by
 subst hK
 intro pins s σ H xs us Q I r h
 obtain ⟨a, c, ys, b, rfl, hk, q⟩ := h
 obtain ⟨u, w', rfl, ru, rw'⟩ := vals2 r
 cases ru; cases rw'
 have fin : ∀ tk, EP X pins σ Q (.bool b) { s with toks := tk } := fun tk => ⟨.bl b, H, I.tok tk, rfl, q⟩
 rcases hk with ⟨ha, e⟩ | ⟨ha, e⟩
 · obtain ⟨its, r1, p1, _⟩ := I.tuple ha
   obtain ⟨o, h1, h2, _⟩ := p1
   exact PySem.W.kia_one PySem.W.kitx_tuple I.kIn ⟨o, h1, h2⟩ e (fun z => nomatch z) fin
 · obtain ⟨its, r1, p1, _⟩ := I.list ha
   obtain ⟨o, h1, h2, _⟩ := p1.isList
   exact PySem.W.kia_one PySem.W.kitx_list I.kIn ⟨o, h1, h2⟩ e (fun z => nomatch z) fin
end
end L2
namespace L2
open PySem PySem.Spec PyProof.Rows
section
variable {X : Cx}
theorem pe_gint {x : Str} {z : Int} {t : Tok} {pos : Pos} (hg : Gl X x) (hm : X.mg x = some (.int z t)) (hd : (x == ("__debug__" : Str)) = false := by decide) : PE X (.Name x pos) (tC (.int z)) := pe_glob hg hm ⟨t, rfl⟩ hd
end
end L2

set_option Elab.async false
set_option linter.all false
set_option maxRecDepth 100000
set_option maxHeartbeats 4000000
namespace L2
open PySem PySem.Spec PyProof.Rows
section
variable {X : Cx} {CX : CXT} {k : Nat} {f C : Addr} {fd : FuncData} {ps ks : List Str} {sp : Sp} {E : XK} {x m : Str} {p pos apos kpos : Pos} {e o : Expr} {es : List Expr} {kws : List Keyword} {te ta : TE} {t tk : TA} {nm : Option Str}
 {g : List Value → List Value → List Value} {gV : List V → List V → List V}
end
section
variable {X : Cx} {pins : List (Addr × Obj)} {σ : St} {H : Hp} {s : Shared}
end
section
variable {X : Cx}
end
end L2
namespace L2
open PySem PySem.Spec PyProof.Rows
theorem sl_str {X : Cx} : SlR X (fun x lo hi H Q => ∃ z, x = .str z ∧ z.length ≤ sizeLine ∧ Q (.str (Txt.slice z lo hi)) H) := by
 intro pins s σ H x v vl vu lo hi sl Q I rx hs pl pu h
 obtain ⟨z, rfl, hz, q⟩ := h
 obtain ⟨t, rfl⟩ := rx
 refine ⟨"str", _, F.slot_str_getitem.lookup, typeIs_str _ _ _, ?_⟩
 cases pl with
 | none =>
   cases pu with
   | none => exact wpAny_getItem_str_slice (l := none) (u := none) (st := none) hs rfl (post_val_or_str ⟨Nat.le_trans (Txt.slice_le z _ _) hz, fun t' k => ⟨.str _, H, I.tok _, ⟨_, rfl⟩, q⟩⟩)
   | int j uj => exact wpAny_getItem_str_slice (l := none) (u := some (j, uj)) (st := none) hs rfl (post_val_or_str ⟨Nat.le_trans (Txt.slice_le z _ _) hz, fun t' k => ⟨.str _, H, I.tok _, ⟨_, rfl⟩, q⟩⟩)
 | int i ui =>
   cases pu with
   | none => exact wpAny_getItem_str_slice (l := some (i, ui)) (u := none) (st := none) hs rfl (post_val_or_str ⟨Nat.le_trans (Txt.slice_le z _ _) hz, fun t' k => ⟨.str _, H, I.tok _, ⟨_, rfl⟩, q⟩⟩)
   | int j uj => exact wpAny_getItem_str_slice (l := some (i, ui)) (u := some (j, uj)) (st := none) hs rfl (post_val_or_str ⟨Nat.le_trans (Txt.slice_le z _ _) hz, fun t' k => ⟨.str _, H, I.tok _, ⟨_, rfl⟩, q⟩⟩)
end L2

set_option Elab.async false
set_option linter.all false
set_option maxRecDepth 100000
set_option maxHeartbeats 4000000
namespace L2
open PySem PySem.Spec PyProof.Rows
section
variable {X : Cx} {pins : List (Addr × Obj)} {σ : St} {H : Hp} {s : Shared} {h' : Heap}
theorem Inv.turnedL {t' : Nat} {wr : List Addr} (I : Inv X pins σ H s) (k : ∀ b o, b ∉ wr → s.heap.get? b = some o → h'.get? b = some o) (hf : ∀ it ∈ wr, FpOk X pins H it) : Inv X pins σ H { s with heap := h', toks := t' } := by
 have nit : ∀ b u, H b = some u → b ∉ wr := fun b u e z => by rw [(hf b z).1] at e; cases e
 have hL : X.env.locals ∉ wr := fun z => (hf _ z).2.1 rfl
 refine I.step (g' := s.gens) (d' := s.drawn) (ch := wr) (fun b hb => ?_) (fun b o _ _ hc e _ => k b o hc e) (fun b o _ _ hc e _ => ⟨o.slots, k b o hc e⟩) (fun _ _ _ _ n => n)
   (fun b o hc e => ⟨o, k b o hc e⟩) (fun _ _ e => e) (fun _ _ _ e => e) (fun b ps e => ⟨#[], by rw [e]; simp⟩) (fun m hm => ?_) (fun b u e => ?_) I.bare
 · obtain ⟨f0, f1, f2, f3, f4, f5⟩ := hf b hb
   exact ⟨f3, f1, f4, f5⟩
 · obtain ⟨o, es, ep, ho, r⟩ := hm
   exact ⟨o, es, ep, k _ o hL ho, r⟩
 · refine (I.hok b u e).stay (fun c v hc q => k c v ?_ q) (fun _ q => q) fun _ _ q => q
   rcases hc with z | z
   · rw [z]; exact nit b u e
   · exact nit c _ z
end
def hmid (h h2 : Heap) : Heap := ⟨h.objs ++ (h2.objs.toList.drop h.objs.size).toArray, h2.life⟩
theorem mid_lt {h h2 : Heap} {a : Addr} (ha : a < h.objs.size) : (hmid h h2).get? a = h.get? a := by
 have e : (hmid h h2).objs[a]? = h.objs[a]? := Array.getElem?_append_left ha
 unfold Heap.get?
 rw [e]
theorem mid_ge {h h2 : Heap} {a : Addr} (ha : h.objs.size ≤ a) : (hmid h h2).get? a = h2.get? a := by
 have e : (hmid h h2).objs[a]? = h2.objs[a]? := by
   show (h.objs ++ (h2.objs.toList.drop h.objs.size).toArray)[a]? = _
   rw [Array.getElem?_append_right ha, List.getElem?_toArray, List.getElem?_drop, Array.getElem?_toList]
   congr 1
   omega
 unfold Heap.get?
 rw [e]
theorem walk_item {X : Cx} {pins : List (Addr × Obj)} {σ : St} {H : Hp} {s : Shared} {E : Value → Shared → Prop} {it : Addr} {fpW wr fp : List Addr} {n : Nat} {Pt : Nat → Array Value → Prop} {St' : Nat → Heap → Prop} {Mid : Nat → Addr → Heap → Prop} {elts : List Expr} {k : Nat} {pos : Pos} {J : It} {tn : Nat → Heap → Prop} {i : Nat}
   (W : WalksT X.prog X.w X.A it fpW wr n Pt St' Mid) (I : Inv X pins σ H s) (hfp : ∀ b ∈ fp, FpOk X pins H b) (hwr : ∀ b ∈ wr, b ∈ fp) (hsz : ∀ b ∈ fp, b < s.heap.objs.size) (hi : i < n) (hst : St' i s.heap)
   (hv : ∀ vals, Pt i vals → ∃ vs : List V, vs.length ≤ sizeLine ∧ Vals vs vals.toList ∧ ∀ T, H T = none → J.yld i H (.ref T) (upd H T (.tup vs))) (htn : ∀ h, St' (i + 1) h → tn (i + 1) h) :
   wpAny (model X.prog X.w) X.A (pyNext (.ref it)) (fun r s1 => ∃ u, r = some u ∧
     wpAny (model X.prog X.w) X.A (letOwnedTupleGo (.Tuple elts k pos) (.ref it) u) (fun _ s2 => ∃ x H', Inv X pins σ H' s2 ∧ RelV x u ∧ J.yld i H x H' ∧ tn (i + 1) s2.heap ∧ ∀ b ∈ fp, H' b = none) E s1) E s := by
 refine W.item i s _ E hi hst fun T vals h1 tk hPt hT hTup hMid hk => ⟨.ref T, rfl, ?_⟩
 have hap := W.apart i T h1 hMid
 refine W.go elts k pos i T _ _ E hMid fun h2 hSt hk2 => ?_
 obtain ⟨vs, hlen, hvals, hy⟩ := hv vals hPt
 have hTn : H T = none := I.hok.fresh hT
 obtain ⟨o, ho, hoc, m, hod⟩ := hTup
 have ho2 : h2.get? T = some o := hk2 T o hap ho
 have I1 : Inv X pins σ (upd H T (.tup vs)) { s with heap := hmid s.heap h2, toks := tk } := by
   refine I.laid (fun b u e => (mid_lt (Heap.lt_size e)).trans e) hT ?_
   refine ⟨hlen, vals.toList, hvals, ⟨o, (mid_ge hT).trans ho2, hoc, m, ?_⟩⟩
   rw [hod]
 have hne : ∀ b ∈ fp, b ≠ T := fun b hb e => by
   have := hsz b hb
   rw [e] at this
   exact absurd this (Nat.not_lt.mpr hT)
 have I2 := I1.turnedL (h' := h2) (t' := tk) (wr := wr) (fun b ob hb e => ?_) (fun b hb => ?_)
 · exact ⟨.ref T, _, I2, rfl, hy T hTn, htn _ hSt, fun b hb => (upd_ne (hne b hb)).trans (hfp b hb).1⟩
 · by_cases hlt : b < s.heap.objs.size
   · have e : s.heap.get? b = some ob := (mid_lt hlt).symm.trans e
     exact hk2 b ob hb (hk b ob hb e)
   · exact (mid_ge (Nat.le_of_not_lt hlt)).symm.trans e
 · have f := hfp b (hwr b hb)
   exact ⟨(upd_ne (hne b (hwr b hb))).trans f.1, f.2⟩
theorem walk_done {X : Cx} {pins : List (Addr × Obj)} {σ : St} {H : Hp} {s : Shared} {E : Value → Shared → Prop} {it : Addr} {fpW wr fp : List Addr} {n : Nat} {Pt : Nat → Array Value → Prop} {St' : Nat → Heap → Prop} {Mid : Nat → Addr → Heap → Prop}
   (W : WalksT X.prog X.w X.A it fpW wr n Pt St' Mid) (I : Inv X pins σ H s) (hfp : ∀ b ∈ fp, FpOk X pins H b) (hwr : ∀ b ∈ wr, b ∈ fp) (hst : St' n s.heap) :
   wpAny (model X.prog X.w) X.A (pyNext (.ref it)) (fun r s1 => r = none ∧ Inv X pins σ H s1) E s :=
 W.done s _ E hst fun h1 tk hk => ⟨rfl, I.turnedL (h' := h1) (t' := tk) (wr := wr) hk fun b hb => hfp b (hwr b hb)⟩
end L2
namespace L2
open PySem PySem.Spec PyProof.Rows
theorem apartN (I l1 l2 : Nat) (h1 : @LT.lt Nat _ l1 I) (h2 : @LT.lt Nat _ l2 I) : ZipApart (I + 4) (I + 2) (I + 3) I (I + 1) l1 l2 := by
 constructor <;> (intro e; have e' := @id (@Eq Nat _ _) e; omega)
end L2
namespace L2
open PySem PySem.Spec PyProof.Rows
def Ite (K : PySem.W.Frag) (a : Addr) : It :=
 ⟨fun i H => ∃ xs x, SqL K H a xs ∧ xs[i]? = some x,
  fun i H v H' => ∃ t x, H t = none ∧ v = .ref t ∧ H' = upd H t (.tup [.int i, x]) ∧ ∀ xs, SqL K H a xs → xs[i]? = some x,
  fun i H => ∃ xs, SqL K H a xs ∧ xs.length = i⟩
theorem turn_enum {P : Program} {w : World} {K : PySem.W.Frag} {elts : List Expr} {k : Nat} {pos : Pos} {e it l : Addr} (hei : e ≠ it) (hle : l ≠ e) (hli : l ≠ it) :
   Turn P w K (.Tuple elts k pos) (Ite K l) [e, it] e (fun i h => (∃ old, IsEnum h e it i old) ∧ h.IsListIter it l i) where
 mem := by simp
 obj := fun i h st b hb => by
   obtain ⟨⟨old, he⟩, ⟨o1, e1, c1, d1⟩⟩ := st
   simp only [List.mem_cons, List.mem_nil_iff, or_false] at hb
   rcases hb with rfl | rfl
   · exact ⟨_, he, fun v q => by cases q⟩
   · exact ⟨_, e1, fun v q => by rw [d1] at q; cases q⟩
 keep := fun i h h' st k => by
   obtain ⟨⟨old, he⟩, q1⟩ := st
   exact ⟨⟨old, k e (by simp) _ he⟩, q1.at fun o x => k it (by simp) o x⟩
 item := by
   intro X hP hw hK hc i pins s σ H E I hf st hg
   subst hP hw hK
   obtain ⟨xs, x, hx, ex⟩ := hg
   obtain ⟨its, rv, p, hz⟩ := I.list hx
   obtain ⟨u, hu, ru⟩ := rv.get ex
   obtain ⟨s1, s2⟩ := id st
   have W := WalksT.enumerate (prog := X.prog) (w := X.w) (A := X.A) (I.ok.hd hc) e it l hei hle hli its.toArray
   refine walk_item (J := Ite X.K l) (tn := fun i h => (∃ old, IsEnum h e it i old) ∧ h.IsListIter it l i) W I hf (fun b hb => hb) ?_ ?_ ?_ ?_ ?_
   · intro b hb
     simp only [List.mem_cons, List.mem_nil_iff, or_false] at hb
     obtain ⟨old, s1⟩ := s1
     obtain ⟨o1, e1, _⟩ := s2
     rcases hb with rfl | rfl
     · exact Heap.lt_size s1
     · exact Heap.lt_size e1
   · have h1 := (List.getElem?_eq_some_iff.mp hu).1
     simpa using h1
   · exact ⟨s1, s2, p.isList⟩
   · intro vals hp
     obtain ⟨t, v1, e1, rfl⟩ := hp
     have e1 : its[i]? = some v1 := by simpa using e1
     rw [hu] at e1; cases e1
     exact ⟨[.int i, x], (by show 2 ≤ sizeLine; decide), .cons ⟨_, rfl⟩ (.cons ru .nil), fun T hT => ⟨T, x, hT, rfl, rfl, fun zs hz => by rw [I.list_inj hz hx]; exact ex⟩⟩
   · exact fun h q => ⟨q.1, q.2.1⟩
 done := by
   intro X hP hw hK hc i pins s σ H E I hf st hg
   subst hP hw hK
   obtain ⟨xs, hx, hlen⟩ := hg
   obtain ⟨its, rv, p, hz⟩ := I.list hx
   obtain ⟨s1, s2⟩ := id st
   have e' : i = its.toArray.size := by rw [List.size_toArray, ← rv.length, hlen]
   subst e'
   have W := WalksT.enumerate (prog := X.prog) (w := X.w) (A := X.A) (I.ok.hd hc) e it l hei hle hli its.toArray
   exact walk_done W I hf (fun b hb => hb) ⟨s1, s2, p.isList⟩
 self := fun _ _ _ _ _ st h => by
   obtain ⟨⟨old, he⟩, _⟩ := st
   exact wpAny_pyIter_enum he h
def iEnum (K : PySem.W.Frag) (ta : TA) : TI := fun σ H R => ta σ H fun vs H1 => ∃ a, vs = [.ref a] ∧ (∃ xs, SqL K H1 a xs) ∧ R (Ite K a) H1
theorem piK_enum {X : Cx} {elts : List Expr} {k : Nat} {tpos : Pos} {a : Expr} {ta : TA} {p pos : Pos} (K : PySem.W.Frag) (hK : X.K = K) (hg : Gl X "enumerate") (hm : X.mg "enumerate" = none) (ha : PA X [a] ta) (hs : starEach [a] X.env = [(false, eval a X.env)] := by rfl) :
   PI X (.Tuple elts k tpos) (.Call (.Name "enumerate" p) [a] [] pos) (iEnum K ta) := by
 subst hK
 intro pins s σ H R I h
 refine Call_ (ld_blt I hg hm (u := .type "enumerate") (by decide +kernel) (PyProof.Rows.callWith_type1 (thn (ha pos pins s σ H _ I h) fun us s1 ⟨vs, H1, I1, r1, q1⟩ => ?_) hs rfl))
 obtain ⟨l, e, ⟨xs, hx⟩, q⟩ := q1
 subst e
 cases r1 with
 | cons r rr =>
   cases rr
   cases r
   obtain ⟨its, rv, pl, hz⟩ := I1.list hx
   have hlt : l < s1.heap.objs.size := by obtain ⟨o, ho, _⟩ := pl.isList; exact Heap.lt_size ho
   refine call_enumerate_list pl.isList fun h' hE hI hsz hk => ?_
   refine wpAny_pyIter_enum hE ?_
   have I2 : Inv X pins σ H1 { s1 with heap := h' } := I1.kept (t' := s1.toks) fun b o e => hk b o e
   refine ⟨s1.heap.objs.size + 1, _, _, _, H1, rfl, I2, turn_enum (Nat.succ_ne_self _) (Nat.ne_of_lt (Nat.lt_succ_of_lt hlt)) (Nat.ne_of_lt hlt), ⟨⟨_, hE⟩, hI⟩, fun b hb => ?_, q⟩
   have hb' : s1.heap.objs.size ≤ b := by
     simp only [List.mem_cons, List.mem_nil_iff, or_false] at hb
     rcases hb with rfl | rfl
     · exact Nat.le_add_right _ _
     · exact Nat.le_refl _
   exact I1.fpOk hb' (I1.hok.fresh hb')
theorem for_enum {K : PySem.W.Frag} {a : Addr} {xs : List V} {g : TG} {tb : TS} {D : Ends} {σ : St} {H : Hp} (Pv : Nat → St → Hp → Prop) (h0 : Pv 0 σ H) (hl : ∀ i σ H, i ≤ xs.length → Pv i σ H → SqL K H a xs)
   (hs : ∀ i x t σ H, xs[i]? = some x → H t = none → Pv i σ H → g (.ref t) σ (upd H t (.tup [.int i, x])) fun σ2 H2 => tb { D with nx := Pv (i + 1), ct := Pv (i + 1), bk := D.nx } σ2 H2) (hd : ∀ σ H, Pv xs.length σ H → D.nx σ H) :
   ∃ W : Nat → Nat → St → Hp → Prop, (∃ m, W 0 m σ H) ∧ ∀ i m σ H, W i m σ H →
     ((Ite K a).stop i H ∧ D.nx σ H) ∨ ((Ite K a).go i H ∧ ∃ N : St → Hp → Prop, (∀ σ' H', N σ' H' → ∃ m', m' < m ∧ W (i + 1) m' σ' H') ∧ ∀ x H', (Ite K a).yld i H x H' → g x σ H' fun σ2 H2 => tb { D with nx := N, ct := N, bk := D.nx } σ2 H2) := by
 refine ⟨fun i m σ H => m = xs.length - i ∧ i ≤ xs.length ∧ Pv i σ H, ⟨xs.length, by simp, Nat.zero_le _, h0⟩, ?_⟩
 rintro i m σ H ⟨rfl, hi, p⟩
 have q := hl i σ H hi p
 by_cases hlt : i < xs.length
 · refine .inr ⟨⟨xs, xs[i], q, by simp [hlt]⟩, Pv (i + 1), fun σ' H' p' => ⟨xs.length - (i + 1), by omega, rfl, hlt, p'⟩, fun v H' y => ?_⟩
   obtain ⟨t, x, ht, e1, e2, ex⟩ := y
   subst e1 e2
   exact hs i x t σ _ (ex xs q) ht p
 · have e : i = xs.length := by omega
   subst e
   exact .inl ⟨⟨xs, q, rfl⟩, hd σ H p⟩
end L2

set_option Elab.async false
set_option linter.all false
set_option maxRecDepth 100000
set_option maxHeartbeats 4000000
namespace L2
open PySem PySem.Spec PyProof.Rows
end L2

set_option Elab.async false
set_option linter.all false
set_option maxRecDepth 100000
set_option maxHeartbeats 4000000
namespace L2
open PySem PySem.Spec PyProof.Rows
theorem countP_eqU {y : V} : ∀ {xs : List V} {us : List Value}, Vals xs us → xs.all flatV = true → us.countP (eqU y) = xs.countP (fun z => eqV z y)
 | _, _, .nil, _ => rfl
 | x :: xs, u :: us, .cons r t, f => by
   rw [List.all_cons, Bool.and_eq_true] at f
   rw [List.countP_cons, List.countP_cons, countP_eqU t f.2, eqU_of r f.1]
section
variable {X : Cx}
def rCountL (K : PySem.W.Frag) : V → List V → Hp → VK → Prop := fun x vs H Q => ∃ (p : Addr) (xs : List V) (y : V), x = .ref p ∧ vs = [y] ∧ SqL K H p xs ∧ flatV y = true ∧ xs.all flatV = true ∧ Q (.int (xs.countP fun z => eqV z y : Nat)) H
theorem mt_countL : MtR X "list.count" (rCountL X.K) := by
 intro pins s σ H x vs v us Q I rx rv h
 obtain ⟨p, xs, y, rfl, rfl, hq, fy, fs, q⟩ := h
 cases rx
 obtain ⟨u, rfl, ru⟩ := rv.one
 obtain ⟨its, r, pl, _⟩ := I.list hq
 obtain ⟨⟨cls, dd, data, sl⟩, ho, hc, n, hd⟩ := pl.isList
 simp only at hc hd
 subst hc hd
 refine call_meets F.slot_list_count ⟨_, ho, rfl⟩ F.entry_list_count (F.args_list_count_2 _ _) (SeqAt.list_countAt p its.toArray n dd sl u (eqU y)) ⟨ho, fun w hw => mem_eqAt ru fy r fs w (by simpa using hw), ?_⟩
 refine ⟨.int _, H, I.tok _, ⟨_, rfl⟩, ?_⟩
 rw [show its.toArray.toList = its from rfl, countP_eqU r fs]
 exact q
theorem mtK_countL (K : PySem.W.Frag) (h : X.K = K) : MtR X "list.count" (rCountL K) := by subst h; exact mt_countL
def rEqL (K : PySem.W.Frag) : R2 := fun x y H Q => ∃ a b xs, x = .ref a ∧ y = .ref b ∧ SqL K H a xs ∧ SqL K H b [] ∧ Q (.bl xs.isEmpty) H
theorem op_eqL (K : PySem.W.Frag) (hK : X.K = K) (hu : X.A.units < cLine) : OpR X (compareOp .Eq) (rEqL K) := by
 subst hK
 intro pins s σ H x y v u Q I rx ry h
 obtain ⟨a, b, xs, rfl, rfl, ha, hb, q⟩ := h
 cases rx
 cases ry
 obtain ⟨its, r1, p1, _⟩ := I.list ha
 obtain ⟨its2, r2, p2, _⟩ := I.list hb
 cases r2
 show wpAny _ _ (richCompare .Eq (.ref a) (.ref b)) _ _ _
 cases xs with
 | nil =>
   cases r1
   refine SeqAt.RcAt.lists (e := fun _ => true) p1.isList p2.isList rfl hu (fun j h1 _ => absurd h1 (by simp)) _ _ _ _ ⟨.bl true, H, I, ?_, q⟩
   simp [RelV]
 | cons x xs =>
   cases r1 with
   | cons r rr =>
     exact SeqAt.RcAt.lists_lengths p1.isList p2.isList (by simp) hu _ _ _ _ ⟨.bl false, H, I, rfl, q⟩
def repS (z : Str) (n : Nat) : Str := ⟨(List.replicate n z.cps).foldl (· ++ ·) #[]⟩
def rMulS : R2 := fun x y H Q => ∃ (z : Str) (k : Int), x = .str z ∧ y = .int k ∧ 2 ≤ k ∧ k < 1000000 ∧ 1 ≤ z.length ∧ z.length * k.toNat ≤ 1000000 ∧ Q (.str (repS z k.toNat)) H
theorem op_mulS : OpR X (binaryOp .Mult) rMulS := by
 intro pins s σ H x y v u Q I rx ry h
 obtain ⟨z, k, rfl, rfl, hk, hk2, hz, hl, q⟩ := h
 obtain ⟨t, rfl⟩ := rx
 obtain ⟨t', rfl⟩ := ry
 have e1 : ¬ k < 1 := by omega
 have e2 : (k == 1 || z.length == 0) = false := by
   have h1 : (k == 1) = false := by simp; omega
   have h2 : (z.length == 0) = false := by simp; omega
   rw [h1, h2]; rfl
 have tl : Builtin.Str.tooLong (z.length * k.toNat) = false := by
   unfold Builtin.Str.tooLong
   have hsl : 1000000 ≤ sizeLine := by decide
   simp
   omega
 refine P.mul_str (by simp; omega) (fun _ _ => ?_) (fun _ _ => tl) ?_
 · intro h
   have hzz : (z.length : Int) ≤ 1000000 := by
     have : z.length * 1 ≤ z.length * k.toNat := Nat.mul_le_mul_left _ (by omega)
     omega
   have h3 : (1000000 : Int) ≤ (2 ^ 63 - 1) / k := by
     rw [Int.le_ediv_iff_mul_le (by omega)]
     omega
   omega
 · rw [if_neg e1, e2, if_neg (by decide)]
   exact ⟨fits_reps tl, ⟨.str _, H, I.tok _, ⟨_, rfl⟩, q⟩⟩
end
section
variable {X : Cx}
end
end L2

set_option Elab.async false
set_option linter.all false
set_option maxRecDepth 100000
set_option maxHeartbeats 4000000
namespace L2
open PySem PySem.Spec PyProof.Rows
section
variable {prog : Program} {w : World} {A : Around} {E : Value → Shared → Prop} {s : Shared}
end
section
variable {X : Cx} {e : Expr} {te : TE}
end
end L2

set_option Elab.async false
set_option linter.all false
set_option maxRecDepth 100000
set_option maxHeartbeats 4000000
namespace L2
open PySem PySem.Spec PyProof.Rows
section
variable {prog : Program} {w : World} {A : Around} {E : Value → Shared → Prop} {s : Shared}
end
theorem str_rev_picked (x : Str) (t : Tok) : slicePicked x none none (some (-1, t)) = (List.range x.length).map fun k => x.length - 1 - k := by
 show Builtin.Str.strSliceIndices none none (-1) x.length = _
 unfold Builtin.Str.strSliceIndices
 exact PySem.W.krv_sliceRange x.length
theorem str_rev_made (x : Str) (t u : Tok) : sliceMade x t none none (some (-1, u)) = .str ⟨x.cps.toList.reverse.toArray⟩ := by
 unfold sliceMade
 have e : ((Option.map (fun x : Int × Tok => x.fst) (some (-1, u))).getD 1 == 1) = false := rfl
 rw [e, Bool.false_and, if_neg (by decide), str_rev_picked, PySem.W.krv_range]
 rw [List.filterMap_reverse]
 have := PySem.W.krv_all x.cps
 rw [show x.length = x.cps.size from rfl, this]
def revS (z : Str) : Str := ⟨z.cps.toList.reverse.toArray⟩
def tSlRevS (te tst : TE) : TE := fun σ H Q => te σ H fun x H1 => tst σ H1 fun y H2 => ∃ z, y = .int (-1) ∧ x = .str z ∧ z.length ≤ sizeLine ∧ Q (.str (revS z)) H2
theorem pe_slrevS {X : Cx} {e st : Expr} {te tst : TE} {p2 pos : Pos} (he : PE X e te) (hst : PE X st tst) : PE X (.Subscript e (.Slice none none (some st) p2) pos) (tSlRevS te tst) := by
 intro pins s σ H Q I h
 refine Subscript_ (thn (he pins s σ H _ I h) fun v s1 ⟨x, H1, I1, r1, q1⟩ => ?_)
 refine wpAny_Slice ?_
 rw [evalPart_none]
 refine wpAny_pure ?_
 refine wpAny_pure ?_
 rw [evalPart_some]
 refine thn (hst pins s1 σ H1 _ I1 q1) fun vs s3 ⟨y, H3, I3, r3, q3⟩ => ?_
 obtain ⟨z, rfl, rfl, hz, q⟩ := q3
 obtain ⟨tz, rfl⟩ := r1
 obtain ⟨t, rfl⟩ := r3
 have I4 : Inv X pins σ H3 { s3 with heap := s3.heap.push { cls := .type "slice", data := .fields #[.none, .none, .int (-1) t] } } := I3.kept (t' := s3.toks) fun b ob q => Heap.get?_push_of_some _ q
 show wpAny (model X.prog X.w) X.A (subscriptTail e (.Slice none none (some st) p2) (.str z tz) (.ref s3.heap.objs.size)) (EP X pins σ Q) X.xe { s3 with heap := s3.heap.push { cls := .type "slice", data := .fields #[.none, .none, .int (-1) t] } }
 refine tail_any (ops := [.str z tz, .ref s3.heap.objs.size]) (typeIs_str _ _ _) F.slot_str_getitem.lookup ?_ (by with_unfolding_all rfl)
 refine wpAny_getItem_str_slice (l := none) (u := none) (st := some (-1, t)) ⟨_, Heap.get?_push_size _ rfl, rfl, rfl⟩ rfl ?_
 rw [str_rev_made]
 exact ⟨by show z.cps.toList.reverse.toArray.size ≤ sizeLine; rw [List.size_toArray, List.length_reverse, Array.length_toList]; exact hz, .str _, H3, I4.tok _, ⟨_, rfl⟩, q⟩
end L2

set_option Elab.async false
set_option linter.all false
set_option maxRecDepth 100000
set_option maxHeartbeats 4000000
namespace L2
open PySem PySem.Spec PyProof.Rows
end L2

set_option Elab.async false
set_option linter.all false
set_option maxRecDepth 100000
set_option maxHeartbeats 4000000
namespace L2
open PySem PySem.Spec PyProof.Rows
section
variable {prog : Program} {w : World} {A : Around} {E : Value → Shared → Prop} {s : Shared}
theorem zd_item {z TI TO i1 i2 l : Addr} {n1 n2 k : Nat} {P1 P2 : Nat → Value → Prop} {S1 S2 : Nat → Heap → Prop} {a b : Value} {Q : Value → Shared → Prop} (D : ZipApart z TI TO i1 i2 l l)
   (G1 : Draws prog w A i1 [i1] n1 P1 S1) (G2 : Draws prog w A i2 [i2, l] n2 P2 S2) (hz : IsZip s.heap z TI TO .none) (hTI : IsPair s.heap TI (.ref i1) (.ref i2)) (hTO : IsPair s.heap TO a b)
   (g1 : S1 k s.heap) (g2 : S2 k s.heap) (k1 : k < n1) (k2 : k < n2)
   (hQ : ∀ h' tk x y, P1 k x → P2 k y → IsZip h' z TI TO (rawInt s.heap.objs.size) → IsPair h' TO x y → S1 (k + 1) h' → S2 (k + 1) h' → IsPair h' s.heap.objs.size x y →
     (∀ c o, c ≠ z → c ≠ TO → c ≠ i1 → c ≠ i2 → s.heap.get? c = some o → h'.get? c = some o) → Q (.ref s.heap.objs.size) { s with heap := h', toks := tk }) :
   wpAny (model prog w) A (Builtin.«zip.__next__» ⟨[.ref z], []⟩) (fun fin s' => ∃ v, fin = .done (.ret v) ∧ Q v s') E s := by
 have e1 : ∀ {i : Nat} {h h' : Heap} {c : Addr}, Heap.SameBut c h h' → i1 ≠ c → S1 i h → S1 i h' := fun hs hn g => G1.frame _ _ _ g fun b hb o e => by
   rw [List.mem_singleton.mp hb] at e ⊢; exact hs.extBut _ _ hn e
 have e2 : ∀ {i : Nat} {h h' : Heap} {c : Addr}, Heap.SameBut c h h' → i2 ≠ c → l ≠ c → S2 i h → S2 i h' := fun hs hn hl g => G2.frame _ _ _ g fun b hb o e => by
   rcases List.mem_cons.mp hb with q | q
   · rw [q] at e ⊢; exact hs.extBut _ _ hn e
   · rw [List.mem_singleton.mp q] at e ⊢; exact hs.extBut _ _ hl e
 show wpAny _ _ (field (.ref z) 2 >>= _) _ _ _
 refine wpAny_bind (wpAny_field hz rfl (x := .bool false) rfl ?_)
 show wpAny _ _ (field (.ref z) 3 >>= _) _ _ _
 refine wpAny_bind (wpAny_field hz rfl (x := .ref TI) rfl (wpAny_bind (wpAny_seqItems hTI rfl ?_)))
 show wpAny _ _ (Builtin.SmallTypes.ownedTupleIsFree (.ref z) >>= _) _ _ _
 refine wpAny_bind ?_
 unfold Builtin.SmallTypes.ownedTupleIsFree
 refine wpAny_bind (wpAny_field hz rfl (x := .none) rfl (wpAny_pure ?_))
 simp only [if_true]
 refine wpAny_bind (wpAny_rule (wpAny_bind (wpAny_field hz rfl (x := .ref TO) rfl (wpAny_bind (wpAny_setField_rec hz (by simp) fun A1 z1 q1 => ?_)))))
 replace z1 : IsZip A1 z TI TO .ellipsis := z1
 refine wpAny_bind ?_
 simp only [List.zipIdx_cons, List.zipIdx_nil, List.forIn_cons, List.forIn_nil]
 refine wpAny_bind (wpAny_bind (wpAny_onRaise ?_))
 show wpAny _ _ (Builtin.SmallTypes.nextOf (.ref i1) >>= _) _ _ _
 refine wpAny_bind (G1.item k _ _ _ k1 (e1 q1 D.i1z g1) fun x A2 tk px g1' q2 => wpAny_pure ?_)
 have o2 : IsPair A2 TO a b := q2.extBut _ _ D.TOi1 (q1.extBut _ _ D.TOz hTO)
 refine wpAny_bind (wpAny_seqItems o2 rfl (wpAny_bind (wpAny_updateSeq_pair o2 fun A3 o3 q3 => ?_)))
 replace o3 : IsPair A3 TO x b := o3
 refine wpAny_bind (wpAny_letGo (wpAny_pure (wpAny_bind (wpAny_bind (wpAny_onRaise ?_)))))
 show wpAny _ _ (Builtin.SmallTypes.nextOf (.ref i2) >>= _) _ _ _
 refine wpAny_bind (G2.item k _ _ _ k2 (e2 q3 D.TOi2.symm D.l2TO (e2 q2 D.i12.symm D.l2i1 (e2 q1 D.i2z D.l2z g2))) fun y A4 tk2 py g2' q4 => wpAny_pure ?_)
 have o4 : IsPair A4 TO x b := q4.extBut _ _ D.TOi2 o3
 refine wpAny_bind (wpAny_seqItems o4 rfl (wpAny_bind (wpAny_updateSeq_pair o4 fun A5 o5 q5 => ?_)))
 replace o5 : IsPair A5 TO x y := o5
 refine wpAny_bind (wpAny_letGo (wpAny_pure (wpAny_pure (wpAny_bind (wpAny_seqItems o5 rfl (wpAny_bind (wpAny_newTuple ?_)))))))
 have sz : A5.objs.size = s.heap.objs.size := by rw [q5.1, q4.1, q3.1, q2.1, q1.1]
 have z5 : IsZip A5 z TI TO .ellipsis := q5.extBut _ _ D.TOz.symm (q4.extBut _ _ D.i2z.symm (q3.extBut _ _ D.TOz.symm (q2.extBut _ _ D.i1z.symm z1)))
 have w1 : S1 (k + 1) A5 := e1 q5 D.TOi1.symm (e1 q4 D.i12 (e1 q3 D.TOi1.symm g1'))
 have w2 : S2 (k + 1) A5 := e2 q5 D.TOi2.symm D.l2TO g2'
 have kp : ∀ c o, c ≠ z → c ≠ TO → c ≠ i1 → c ≠ i2 → s.heap.get? c = some o → A5.get? c = some o := fun c o c1 c2 c3 c4 e => q5.extBut _ _ c2 (q4.extBut _ _ c4 (q3.extBut _ _ c2 (q2.extBut _ _ c3 (q1.extBut _ _ c1 e))))
 have lz : z < A5.objs.size := Heap.lt_size z5
 have z6 : IsZip (A5.push { cls := .type "tuple", data := .seq #[x, y] }) z TI TO .ellipsis := Heap.get?_push_of_some _ z5
 show wpAny _ _ (Builtin.SmallTypes.ownedTupleHandOut (.ref z) (.ref A5.objs.size) >>= _) _ _ _
 refine wpAny_bind ?_
 unfold Builtin.SmallTypes.ownedTupleHandOut
 refine wpAny_bind (wpAny_setField_rec z6 (by simp) fun A7 z7 q7 => ?_)
 replace z7 : IsZip A7 z TI TO (rawInt A5.objs.size) := z7
 refine wpAny_setField_rec z7 (by simp) fun A8 z8 q8 => ?_
 replace z8 : IsZip A8 z TI TO (rawInt A5.objs.size) := z8
 have up : ∀ c o, c ≠ z → A5.get? c = some o → A8.get? c = some o := fun c o c1 e => q8.extBut _ _ c1 (q7.extBut _ _ c1 (Heap.get?_push_of_some _ e))
 have t8 : IsPair A8 A5.objs.size x y := q8.extBut _ _ (Nat.ne_of_gt lz) (q7.extBut _ _ (Nat.ne_of_gt lz) (Heap.get?_push_size _ rfl))
 have v1 : S1 (k + 1) A8 := G1.frame _ _ _ w1 fun b hb o e => by
   rw [List.mem_singleton.mp hb] at e ⊢; exact up _ o D.i1z e
 have v2 : S2 (k + 1) A8 := G2.frame _ _ _ w2 fun b hb o e => by
   rcases List.mem_cons.mp hb with q | q
   · rw [q] at e ⊢; exact up _ o D.i2z e
   · rw [List.mem_singleton.mp q] at e ⊢; exact up _ o D.l2z e
 rw [sz] at z8 t8
 refine wpAny_pure ⟨_, rfl, ?_⟩
 show Q (.ref A5.objs.size) _
 rw [sz]
 exact hQ A8 _ x y px py z8 (up _ _ D.TOz o5) v1 v2 t8 fun c o c1 c2 c3 c4 e => up c o c1 (kp c o c1 c2 c3 c4 e)
theorem zd_end {z TI TO i1 i2 l : Addr} {n1 n2 k : Nat} {P1 P2 : Nat → Value → Prop} {S1 S2 : Nat → Heap → Prop} {a b : Value} {Q : Fin → Shared → Prop} (D : ZipApart z TI TO i1 i2 l l)
   (G1 : Draws prog w A i1 [i1] n1 P1 S1) (G2 : Draws prog w A i2 [i2, l] n2 P2 S2) (hz : IsZip s.heap z TI TO .none) (hTI : IsPair s.heap TI (.ref i1) (.ref i2)) (hTO : IsPair s.heap TO a b)
   (g1 : S1 k s.heap) (g2 : S2 k s.heap) (hk : k = n1 ∨ (k < n1 ∧ k = n2))
   (hE : ∀ h' tk e, (∀ c o, c ≠ z → c ≠ TO → c ≠ i1 → c ≠ i2 → s.heap.get? c = some o → h'.get? c = some o) → (∃ o, h'.get? e = some o ∧ o.cls = .type "StopIteration") → E (.ref e) { s with heap := h', toks := tk }) :
   wpAny (model prog w) A (Builtin.«zip.__next__» ⟨[.ref z], []⟩) Q E s := by
 have e1 : ∀ {i : Nat} {h h' : Heap} {c : Addr}, Heap.SameBut c h h' → i1 ≠ c → S1 i h → S1 i h' := fun hs hn g => G1.frame _ _ _ g fun b hb o e => by
   rw [List.mem_singleton.mp hb] at e ⊢; exact hs.extBut _ _ hn e
 have e2 : ∀ {i : Nat} {h h' : Heap} {c : Addr}, Heap.SameBut c h h' → i2 ≠ c → l ≠ c → S2 i h → S2 i h' := fun hs hn hl g => G2.frame _ _ _ g fun b hb o e => by
   rcases List.mem_cons.mp hb with q | q
   · rw [q] at e ⊢; exact hs.extBut _ _ hn e
   · rw [List.mem_singleton.mp q] at e ⊢; exact hs.extBut _ _ hl e
 show wpAny _ _ (field (.ref z) 2 >>= _) _ _ _
 refine wpAny_bind (wpAny_field hz rfl (x := .bool false) rfl ?_)
 show wpAny _ _ (field (.ref z) 3 >>= _) _ _ _
 refine wpAny_bind (wpAny_field hz rfl (x := .ref TI) rfl (wpAny_bind (wpAny_seqItems hTI rfl ?_)))
 show wpAny _ _ (Builtin.SmallTypes.ownedTupleIsFree (.ref z) >>= _) _ _ _
 refine wpAny_bind ?_
 unfold Builtin.SmallTypes.ownedTupleIsFree
 refine wpAny_bind (wpAny_field hz rfl (x := .none) rfl (wpAny_pure ?_))
 simp only [if_true]
 refine wpAny_bind (wpAny_rule (wpAny_bind (wpAny_field hz rfl (x := .ref TO) rfl (wpAny_bind (wpAny_setField_rec hz (by simp) fun A1 z1 q1 => ?_)))))
 replace z1 : IsZip A1 z TI TO .ellipsis := z1
 refine wpAny_bind ?_
 simp only [List.zipIdx_cons, List.zipIdx_nil, List.forIn_cons, List.forIn_nil]
 refine wpAny_bind (wpAny_bind (wpAny_onRaise ?_))
 show wpAny _ _ (Builtin.SmallTypes.nextOf (.ref i1) >>= _) _ _ _
 rcases hk with rfl | ⟨k1, rfl⟩
 · refine wpAny_bind (G1.done _ _ _ (e1 q1 D.i1z g1) fun A2 e q2 he => ?_)
   obtain ⟨oe, hoe, hce⟩ := he
   have z2 : IsZip A2 z TI TO .ellipsis := q2 _ _ D.i1z.symm z1
   have ez : e ≠ z := fun q => by rw [q, z2] at hoe; cases hoe; exact absurd (show Value.type "zip" = Value.type "StopIteration" from hce) (by decide)
   exact wpAny_setField_rec z2 (by simp) fun A3 _ q3 => hE A3 _ e (fun c o c1 _ c3 _ p => q3.extBut _ _ c1 (q2 _ _ c3 (q1.extBut _ _ c1 p))) ⟨oe, q3.extBut _ _ ez hoe, hce⟩
 · refine wpAny_bind (G1.item k _ _ _ k1 (e1 q1 D.i1z g1) fun x A2 tk px g1' q2 => wpAny_pure ?_)
   have o2 : IsPair A2 TO a b := q2.extBut _ _ D.TOi1 (q1.extBut _ _ D.TOz hTO)
   refine wpAny_bind (wpAny_seqItems o2 rfl (wpAny_bind (wpAny_updateSeq_pair o2 fun A3 o3 q3 => ?_)))
   refine wpAny_bind (wpAny_letGo (wpAny_pure (wpAny_bind (wpAny_bind (wpAny_onRaise ?_)))))
   show wpAny _ _ (Builtin.SmallTypes.nextOf (.ref i2) >>= _) _ _ _
   refine wpAny_bind (G2.done _ _ _ (e2 q3 D.TOi2.symm D.l2TO (e2 q2 D.i12.symm D.l2i1 (e2 q1 D.i2z D.l2z g2))) fun A4 e q4 he => ?_)
   obtain ⟨oe, hoe, hce⟩ := he
   have z4 : IsZip A4 z TI TO .ellipsis := q4 _ _ D.i2z.symm (q3.extBut _ _ D.TOz.symm (q2.extBut _ _ D.i1z.symm z1))
   have ez : e ≠ z := fun q => by rw [q, z4] at hoe; cases hoe; exact absurd (show Value.type "zip" = Value.type "StopIteration" from hce) (by decide)
   exact wpAny_setField_rec z4 (by simp) fun A5 _ q5 => hE A5 _ e (fun c o c1 c2 c3 c4 p => q5.extBut _ _ c1 (q4 _ _ c4 (q3.extBut _ _ c2 (q2.extBut _ _ c3 (q1.extBut _ _ c1 p))))) ⟨oe, q5.extBut _ _ ez hoe, hce⟩
def IsSI (h : Heap) (it : Addr) (x : Str) (t : Tok) (i : Nat) : Prop := h.IsStrIter it "str_ascii_iterator" x t i ∨ h.IsStrIter it "str_iterator" x t i
theorem si_draws (hh : A.handled = none) (it : Addr) (x : Str) (t : Tok) : Draws prog w A it [it] x.cps.size (fun i v => ∃ c u, x.cps[i]? = some c ∧ v = .str ⟨#[c]⟩ u) (fun i h => IsSI h it x t i) where
 live := fun i h st => by
   rcases st with st | st
   · exact (Draws.strAscii (prog := prog) (w := w) hh it x t).live i h st
   · exact (Draws.strWide (prog := prog) (w := w) hh it x t).live i h st
 frame := fun i h h' st hk => by
   rcases st with st | st
   · exact .inl ((Draws.strAscii (prog := prog) (w := w) hh it x t).frame i h h' st hk)
   · exact .inr ((Draws.strWide (prog := prog) (w := w) hh it x t).frame i h h' st hk)
 item := fun i s Q E hi st hQ => by
   rcases st with st | st
   · exact (Draws.strAscii (prog := prog) (w := w) hh it x t).item i s Q E hi st fun v h' tk p q r => hQ v h' tk p (.inl q) r
   · exact (Draws.strWide (prog := prog) (w := w) hh it x t).item i s Q E hi st fun v h' tk p q r => hQ v h' tk p (.inr q) r
 done := fun s Q E st hE => by
   rcases st with st | st
   · exact (Draws.strAscii (prog := prog) (w := w) hh it x t).done s Q E st hE
   · exact (Draws.strWide (prog := prog) (w := w) hh it x t).done s Q E st hE
theorem si_at {h h' : Heap} {it : Addr} {x : Str} {t : Tok} {i : Nat} (q : IsSI h it x t i) (e : ∀ o, h.get? it = some o → h'.get? it = some o) : IsSI h' it x t i := by
 rcases q with ⟨o, ho, r⟩ | ⟨o, ho, r⟩
 · exact .inl ⟨o, e _ ho, r⟩
 · exact .inr ⟨o, e _ ho, r⟩
theorem si_has {h : Heap} {it : Addr} {x : Str} {t : Tok} {i : Nat} (q : IsSI h it x t i) : ∃ o, h.get? it = some o ∧ ∃ vs, o.data = .fields vs := by
 rcases q with ⟨o, ho, _, r⟩ | ⟨o, ho, _, r⟩
 · exact ⟨o, ho, _, r⟩
 · exact ⟨o, ho, _, r⟩
theorem zs_walks (hh : A.handled = none) (z TI TO i1 i2 l : Addr) (D : ZipApart z TI TO i1 i2 l l) (x : Str) (t : Tok) (ys : Array Value) :
   WalksT prog w A z [z, TI, TO, i1, i2, l] [z, TO, i1, i2] (min x.cps.size ys.size)
     (fun i vals => ∃ c u y, x.cps[i]? = some c ∧ ys[i]? = some y ∧ vals = #[.str ⟨#[c]⟩ u, y])
     (fun i h => IsZip h z TI TO .none ∧ IsPair h TI (.ref i1) (.ref i2) ∧ (∃ a b, IsPair h TO a b) ∧ IsSI h i1 x t i ∧ h.IsListIter i2 l i ∧ h.IsList l ys)
     (fun i T h => IsZip h z TI TO (rawInt T) ∧ IsPair h TI (.ref i1) (.ref i2) ∧ (∃ a b, IsPair h TO a b) ∧ IsSI h i1 x t (i + 1) ∧ h.IsListIter i2 l (i + 1) ∧ h.IsList l ys ∧ T ≠ z ∧ T ≠ TO ∧ T ≠ i1 ∧ T ≠ i2) where
 sub := fun c hc => by
   simp only [List.mem_cons, List.mem_nil_iff, or_false] at hc ⊢
   rcases hc with q | q | q | q <;> simp [q]
 frame := fun i h h' st hk => by
   obtain ⟨p1, p2, ⟨a, b, p3⟩, p4, p5, p6⟩ := st
   exact ⟨hk z (by simp) _ p1, hk TI (by simp) _ p2, ⟨a, b, hk TO (by simp) _ p3⟩, si_at p4 fun o e => hk i1 (by simp) o e, p5.at fun o e => hk i2 (by simp) o e, p6.at fun o e => hk l (by simp) o e⟩
 item := fun i s Q E hi st hQ => by
   obtain ⟨p1, p2, ⟨a, b, p3⟩, p4, p5, p6⟩ := st
   have hT : s.TypeIs (.ref z) "zip" := ⟨_, p1, rfl⟩
   unfold pyNext
   refine wpAny_bind (wpAny_attempt (wpAny_callSpecial?_slot (name := Str.ofString "__next__") hT F.slot_zip_next (wpAny_call_entry F.slot_zip_next hT F.entry_zip_next ?_ (F.args_zip_next_1 _))))
   refine zd_item (S1 := fun i h => IsSI h i1 x t i) (S2 := fun i h => h.IsListIter i2 l i ∧ h.IsList l ys) D (si_draws (A := A.in1) hh i1 x t) (Draws.list (A := A.in1) hh i2 l D.l2i2 ys) p1 p2 p3 p4 ⟨p5, p6⟩ (Nat.lt_of_lt_of_le hi (Nat.min_le_left ..)) (Nat.lt_of_lt_of_le hi (Nat.min_le_right ..)) fun h' tk u y pu py r1 r2 r3 r4 r5 kp => ?_
   obtain ⟨c, tu, hc, rfl⟩ := pu
   have lt : ∀ {c o}, s.heap.get? c = some o → s.heap.objs.size ≠ c := fun e => Nat.ne_of_gt (Heap.lt_size e)
   refine wpAny_pure (hQ s.heap.objs.size #[.str ⟨#[c]⟩ tu, y] h' tk ⟨c, tu, y, hc, py, rfl⟩ (Nat.le_refl _) ⟨_, r5, rfl, _, rfl⟩ ⟨r1, kp _ _ D.TIz D.TITO D.TIi1 D.TIi2 p2, ⟨_, _, r2⟩, r3, r4.1, r4.2, lt p1, lt p3, ?_, ?_⟩ fun c o hc e => kp c o (fun q => hc (by simp [q])) (fun q => hc (by simp [q])) (fun q => hc (by simp [q])) (fun q => hc (by simp [q])) e)
   · obtain ⟨o, ho, _⟩ := si_has p4; exact lt ho
   · obtain ⟨o, ho, _⟩ := p5; exact lt ho
 go := fun elts k pos i T s Q E hm hQ => by
   obtain ⟨p1, p2, ⟨a, b, p3⟩, p4, p5, p6, _⟩ := hm
   refine wpAny_letOwnedTupleGo_zip p1 fun h' z' q => hQ h' ⟨z', q.extBut _ _ D.TIz p2, ⟨a, b, q.extBut _ _ D.TOz p3⟩, si_at p4 fun o e => q.extBut _ _ D.i1z e, p5.extBut q.extBut D.i2z, p6.extBut q.extBut D.l2z⟩ fun c o hc e => q.extBut _ _ (fun y => hc (by simp [y])) e
 apart := fun i T h hm hT => by
   obtain ⟨_, _, _, _, _, _, t1, t2, t3, t4⟩ := hm
   simp only [List.mem_cons, List.mem_nil_iff, or_false] at hT
   rcases hT with q | q | q | q
   · exact t1 q
   · exact t2 q
   · exact t3 q
   · exact t4 q
 done := fun s Q E st hQ => by
   obtain ⟨p1, p2, ⟨a, b, p3⟩, p4, p5, p6⟩ := st
   have hT : s.TypeIs (.ref z) "zip" := ⟨_, p1, rfl⟩
   unfold pyNext
   refine wpAny_bind (wpAny_attempt (wpAny_callSpecial?_slot (name := Str.ofString "__next__") hT F.slot_zip_next (wpAny_call_entry F.slot_zip_next hT F.entry_zip_next ?_ (F.args_zip_next_1 _))))
   refine zd_end (S1 := fun i h => IsSI h i1 x t i) (S2 := fun i h => h.IsListIter i2 l i ∧ h.IsList l ys) D (si_draws (A := A.in1) hh i1 x t) (Draws.list (A := A.in1) hh i2 l D.l2i2 ys) p1 p2 p3 p4 ⟨p5, p6⟩ ?_ fun h' tk e kp he => ?_
   · by_cases q : x.cps.size ≤ ys.size
     · exact .inl (Nat.min_eq_left q)
     · exact .inr ⟨by omega, Nat.min_eq_right (by omega)⟩
   · obtain ⟨o, ho, hc⟩ := he
     refine wpAny_bind (wpAny_isInstance (T := "StopIteration") (b := true) ⟨o, ho, hc⟩ isSubtype_stop (wpAny_pure (hQ _ _ fun c o hc e => kp c o (fun q => hc (by simp [q])) (fun q => hc (by simp [q])) (fun q => hc (by simp [q])) (fun q => hc (by simp [q])) e)))
 self := fun i s Q E st hQ => wpAny_pyIter_zip st.1 hQ
end
def Itzs (K : PySem.W.Frag) (z : Str) (b : Addr) : It :=
 ⟨fun i H => ∃ ys c y, SqL K H b ys ∧ z.cps[i]? = some c ∧ ys[i]? = some y,
  fun i H v H' => ∃ t c y, H t = none ∧ v = .ref t ∧ H' = upd H t (.tup [.str (sg c), y]) ∧ z.cps[i]? = some c ∧ (∀ ys, SqL K H b ys → ys[i]? = some y),
  fun i H => ∃ ys, SqL K H b ys ∧ min z.cps.size ys.length = i⟩
theorem turn_zipS {P : Program} {w : World} {K : PySem.W.Frag} {elts : List Expr} {k : Nat} {pos : Pos} {z TI TO i1 i2 l : Addr} {x : Str} {t : Tok} (D : ZipApart z TI TO i1 i2 l l) :
   Turn P w K (.Tuple elts k pos) (Itzs K x l) [z, TI, TO, i1, i2] z (fun i h => IsZip h z TI TO .none ∧ IsPair h TI (.ref i1) (.ref i2) ∧ (∃ a b, IsPair h TO a b) ∧ IsSI h i1 x t i ∧ h.IsListIter i2 l i) where
 mem := by simp
 obj := fun i h st b hb => by
   obtain ⟨p1, p2, ⟨a, c, p3⟩, p4, ⟨o2, e2, c2, d2⟩⟩ := st
   simp only [List.mem_cons, List.mem_nil_iff, or_false] at hb
   rcases hb with rfl | rfl | rfl | rfl | rfl
   · exact ⟨_, p1, fun v q => by cases q⟩
   · exact ⟨_, p2, fun v q => by cases q⟩
   · exact ⟨_, p3, fun v q => by cases q⟩
   · obtain ⟨o, ho, vs, hv⟩ := si_has p4; exact ⟨o, ho, fun v q => by rw [hv] at q; cases q⟩
   · exact ⟨_, e2, fun v q => by rw [d2] at q; cases q⟩
 keep := fun i h h' st k => by
   obtain ⟨p1, p2, ⟨a, c, p3⟩, p4, p5⟩ := st
   exact ⟨k z (by simp) _ p1, k TI (by simp) _ p2, ⟨a, c, k TO (by simp) _ p3⟩, si_at p4 fun o e => k i1 (by simp) o e, p5.at fun o e => k i2 (by simp) o e⟩
 item := by
   intro X hP hw hK hc i pins s σ H E I hf st hg
   subst hP hw hK
   obtain ⟨ys, c, y, hy, ec, ey⟩ := hg
   obtain ⟨its, rv, p, hz⟩ := I.list hy
   obtain ⟨u, hu, ru⟩ := rv.get ey
   obtain ⟨p1, p2, p3, p4, p5⟩ := id st
   have W := zs_walks (prog := X.prog) (w := X.w) (A := X.A) (I.ok.hd hc) z TI TO i1 i2 l D x t its.toArray
   have hsub : ∀ b ∈ [z, TO, i1, i2], b ∈ [z, TI, TO, i1, i2] := by
     intro b hb
     simp only [List.mem_cons, List.mem_nil_iff, or_false] at hb ⊢
     rcases hb with q | q | q | q <;> simp [q]
   refine walk_item (J := Itzs X.K x l) (tn := fun i h => IsZip h z TI TO .none ∧ IsPair h TI (.ref i1) (.ref i2) ∧ (∃ a b, IsPair h TO a b) ∧ IsSI h i1 x t i ∧ h.IsListIter i2 l i) W I hf hsub ?_ ?_ ?_ ?_ ?_
   · intro b hb
     obtain ⟨a', b', p3⟩ := p3
     obtain ⟨o1, e1, _⟩ := si_has p4
     obtain ⟨o2, e2, _⟩ := p5
     simp only [List.mem_cons, List.mem_nil_iff, or_false] at hb
     rcases hb with rfl | rfl | rfl | rfl | rfl
     · exact Heap.lt_size p1
     · exact Heap.lt_size p2
     · exact Heap.lt_size p3
     · exact Heap.lt_size e1
     · exact Heap.lt_size e2
   · have h1 := (Array.getElem?_eq_some_iff.mp ec).1
     have h2 := (List.getElem?_eq_some_iff.mp hu).1
     simp only [List.size_toArray]
     omega
   · exact ⟨p1, p2, p3, p4, p5, p.isList⟩
   · rintro vals ⟨c', tu, v2, q1, q2, rfl⟩
     rw [ec] at q1; cases q1
     have q2 : its[i]? = some v2 := by simpa using q2
     rw [hu] at q2; cases q2
     exact ⟨[.str (sg c), y], (by show 2 ≤ sizeLine; decide), .cons ⟨tu, rfl⟩ (.cons ru .nil), fun T hT => ⟨T, c, y, hT, rfl, rfl, ec, fun zs hz => by rw [I.list_inj hz hy]; exact ey⟩⟩
   · exact fun h q => ⟨q.1, q.2.1, q.2.2.1, q.2.2.2.1, q.2.2.2.2.1⟩
 done := by
   intro X hP hw hK hc i pins s σ H E I hf st hg
   subst hP hw hK
   obtain ⟨ys, hy, hmin⟩ := hg
   obtain ⟨its, rv, p, hz⟩ := I.list hy
   obtain ⟨p1, p2, p3, p4, p5⟩ := id st
   have e2 : its.toArray.size = ys.length := by rw [rv.length]; exact List.size_toArray ..
   have e : i = min x.cps.size its.toArray.size := by rw [e2, hmin]
   subst e
   have W := zs_walks (prog := X.prog) (w := X.w) (A := X.A) (I.ok.hd hc) z TI TO i1 i2 l D x t its.toArray
   have hsub : ∀ b ∈ [z, TO, i1, i2], b ∈ [z, TI, TO, i1, i2] := by
     intro b hb
     simp only [List.mem_cons, List.mem_nil_iff, or_false] at hb ⊢
     rcases hb with q | q | q | q <;> simp [q]
   exact walk_done W I hf hsub ⟨p1, p2, p3, p4, p5, p.isList⟩
 self := fun _ _ _ _ _ st h => wpAny_pyIter_zip st.1 h
def siObj (x : Str) (t : Tok) : Obj := { cls := .type (if x.cps.all (· < 128) = true then "str_ascii_iterator" else "str_iterator"), data := .fields #[.str x t, .int 0 0] }
theorem si_new {h : Heap} {it : Addr} {x : Str} {t : Tok} (e : h.get? it = some (siObj x t)) : IsSI h it x t 0 := by
 unfold siObj at e
 cases ha : x.cps.all (· < 128)
 · rw [ha, if_neg (by decide)] at e; exact .inr ⟨_, e, rfl, rfl⟩
 · rw [ha, if_pos rfl] at e; exact .inl ⟨_, e, rfl, rfl⟩
section
variable {prog : Program} {w : World} {A : Around} {E : Value → Shared → Prop} {s : Shared}
theorem si_iter {x : Str} {t : Tok} {Q : Value → Shared → Prop} (hQ : Q (.ref s.heap.objs.size) { s with heap := s.heap.push (siObj x t) }) : wpAny (model prog w) A (pyIter (.str x t)) Q E s := by
 unfold siObj at hQ
 cases ha : x.cps.all (· < 128)
 · rw [ha, if_neg (by decide)] at hQ; exact wpAny_pyIter_wide ha hQ
 · rw [ha, if_pos rfl] at hQ; exact wpAny_pyIter_ascii ha hQ
end
abbrev zs1 (h : Heap) (o : Obj) : Heap := h.push o
abbrev zs2 (h : Heap) (o : Obj) (l : Addr) : Heap := (zs1 h o).push { cls := .type "list_iterator", data := .fields #[.ref l, .int 0 0] }
abbrev zs3 (h : Heap) (o : Obj) (l : Addr) : Heap := (zs2 h o l).push { cls := .type "tuple", data := .seq #[.ref h.objs.size, .ref (zs1 h o).objs.size] }
abbrev zs4 (h : Heap) (o : Obj) (l : Addr) : Heap := (zs3 h o l).push { cls := .type "tuple", data := .seq #[.none, .none] }
abbrev zs5 (h : Heap) (o : Obj) (l : Addr) : Heap := (zs4 h o l).push { cls := .type "zip", data := .fields #[.none, .bool false, .bool false, .ref (zs2 h o l).objs.size, .ref (zs3 h o l).objs.size] }
theorem zs_meets (x : Str) (t : Tok) (l : Addr) (ys : Array Value) : Meets (Builtin.«zip.__new__» ⟨[.type "zip", .str x t, .ref l], []⟩) (fun _ R s => s.heap.IsList l ys ∧ R (.ok (.ret (.ref (zs4 s.heap (siObj x t) l).objs.size))) { s with heap := zs5 s.heap (siObj x t) l }) :=
 .of_wp fun prog w A R s h => by
   obtain ⟨hp, g, d, tk, os⟩ := s
   obtain ⟨hl, h⟩ := h
   have hsub := sub_zip
   have hL : Heap.IsList (Shared.heap ⟨hp.push (siObj x t), g, d, tk, os⟩) l ys := Heap.IsList.push hl _
   wp_walk using si_iter, wpAny_pyIter_list hL
   exact ⟨_, rfl, h⟩
section
variable {prog : Program} {w : World} {A : Around} {E : Value → Shared → Prop} {s : Shared}
theorem call_zipS {x : Str} {t : Tok} {l : Addr} {ys : Array Value} {Q : Value → Shared → Prop} (hl : s.heap.IsList l ys)
   (h : ∀ h', IsZip h' (s.heap.objs.size + 4) (s.heap.objs.size + 2) (s.heap.objs.size + 3) .none → IsPair h' (s.heap.objs.size + 2) (.ref s.heap.objs.size) (.ref (s.heap.objs.size + 1)) → IsPair h' (s.heap.objs.size + 3) .none .none →
     IsSI h' s.heap.objs.size x t 0 → h'.IsListIter (s.heap.objs.size + 1) l 0 → (∀ c o, s.heap.get? c = some o → h'.get? c = some o) → Q (.ref (s.heap.objs.size + 4)) { s with heap := h' }) :
   wpAny (model prog w) A (call (.type "zip") [.str x t, .ref l]) Q E s := by
 refine callType_new F.called_zip (by decide) (F.typeCall_zip_2 _ _) (F.newCall_zip_2 _ _) (fun obj => F.args_object_init_3 obj _ _) F.entry_zip_new (zs_meets x t l ys) ⟨hl, ?_⟩
 have n1 : (zs1 s.heap (siObj x t)).objs.size = s.heap.objs.size + 1 := Heap.size_push ..
 have n2 : (zs2 s.heap (siObj x t) l).objs.size = s.heap.objs.size + 2 := by rw [Heap.size_push, n1]
 have n3 : (zs3 s.heap (siObj x t) l).objs.size = s.heap.objs.size + 3 := by rw [Heap.size_push, n2]
 have n4 : (zs4 s.heap (siObj x t) l).objs.size = s.heap.objs.size + 4 := by rw [Heap.size_push, n3]
 have up : ∀ {h : Heap} {c : Addr} {u o : Obj}, h.get? c = some o → (h.push u).get? c = some o := fun e => Heap.get?_push_of_some _ e
 have r5 : (zs5 s.heap (siObj x t) l).get? (zs4 s.heap (siObj x t) l).objs.size = some _ := Heap.get?_push_size _ rfl
 have r4 : (zs5 s.heap (siObj x t) l).get? (zs3 s.heap (siObj x t) l).objs.size = some _ := up (Heap.get?_push_size _ rfl)
 have r3 : (zs5 s.heap (siObj x t) l).get? (zs2 s.heap (siObj x t) l).objs.size = some _ := up (up (Heap.get?_push_size _ rfl))
 have r2 : (zs5 s.heap (siObj x t) l).get? (zs1 s.heap (siObj x t)).objs.size = some _ := up (up (up (Heap.get?_push_size _ rfl)))
 have r1 : (zs5 s.heap (siObj x t) l).get? s.heap.objs.size = some (siObj x t) := up (up (up (up (Heap.get?_push_size _ rfl))))
 show _ ∧ _
 rw [n2, n3, n4] at r5
 rw [n1, n2] at r3
 rw [n3] at r4
 rw [n1] at r2
 rw [n4]
 exact ⟨⟨_, r5, rfl⟩, h _ r5 r3 r4 (si_new r1) ⟨_, r2, rfl, rfl⟩ fun c o q => up (up (up (up (up q))))⟩
end
def iZipS (K : PySem.W.Frag) (ta : TA) : TI := fun σ H R => ta σ H fun vs H1 => ∃ z b, vs = [.str z, .ref b] ∧ (∃ ys, SqL K H1 b ys) ∧ R (Itzs K z b) H1
theorem piK_zipS {X : Cx} {elts : List Expr} {k : Nat} {tpos : Pos} {a b : Expr} {ta : TA} {p pos : Pos} (K : PySem.W.Frag) (hK : X.K = K) (hg : Gl X "zip") (hm : X.mg "zip" = none) (ha : PA X [a, b] ta) (hs : starEach [a, b] X.env = [(false, eval a X.env), (false, eval b X.env)] := by rfl) (hs2 : starEach [b] X.env = [(false, eval b X.env)] := by rfl) :
   PI X (.Tuple elts k tpos) (.Call (.Name "zip" p) [a, b] [] pos) (iZipS K ta) := by
 subst hK
 intro pins s σ H R I h
 refine Call_ (ld_blt I hg hm (u := .type "zip") (by decide +kernel) (PyProof.Rows.callWith_type1 (thn (ha pos pins s σ H _ I h) fun us s1 ⟨vs, H1, I1, r1, q1⟩ => ?_) (by rw [hs, hs2]) (by rw [hs2]; rfl)))
 obtain ⟨z, l, e, ⟨ys, hy⟩, q⟩ := q1
 subst e
 cases r1 with
 | cons r rr =>
   cases rr with
   | cons r' rr =>
     cases rr
     obtain ⟨t, rfl⟩ := r
     cases r'
     obtain ⟨its, rv, pl, hz⟩ := I1.list hy
     have hlt : l < s1.heap.objs.size := by obtain ⟨o, ho, _⟩ := pl.isList; exact Heap.lt_size ho
     refine call_zipS pl.isList fun h' hz' hTI hTO hi1 hi2 hk => ?_
     refine wpAny_pyIter_zip hz' ?_
     have I2 : Inv X pins σ H1 { s1 with heap := h' } := I1.kept (t' := s1.toks) fun b o e => hk b o e
     refine ⟨s1.heap.objs.size + 4, _, _, _, H1, rfl, I2, turn_zipS (x := z) (t := t) (apartN s1.heap.objs.size l l hlt hlt), ⟨hz', hTI, ⟨_, _, hTO⟩, hi1, hi2⟩, fun b hb => ?_, q⟩
     have hb' : s1.heap.objs.size ≤ b := by
       simp only [List.mem_cons, List.mem_nil_iff, or_false] at hb
       rcases hb with rfl | rfl | rfl | rfl | rfl
       · exact Nat.le_add_right _ _
       · exact Nat.le_add_right _ _
       · exact Nat.le_add_right _ _
       · exact Nat.le_refl _
       · exact Nat.le_add_right _ _
     exact I1.fpOk hb' (I1.hok.fresh hb')
theorem for_zipS {K : PySem.W.Frag} {z : Str} {b : Addr} {ys : List V} {g : TG} {tb : TS} {D : Ends} {σ : St} {H : Hp} (Pv : Nat → St → Hp → Prop) (h0 : Pv 0 σ H) (hl : ∀ i σ H, i ≤ min z.cps.size ys.length → Pv i σ H → SqL K H b ys)
   (hs : ∀ i c y t σ H, z.cps[i]? = some c → ys[i]? = some y → H t = none → Pv i σ H → g (.ref t) σ (upd H t (.tup [.str (sg c), y])) fun σ2 H2 => tb { D with nx := Pv (i + 1), ct := Pv (i + 1), bk := D.nx } σ2 H2) (hd : ∀ σ H, Pv (min z.cps.size ys.length) σ H → D.nx σ H) :
   ∃ W : Nat → Nat → St → Hp → Prop, (∃ m, W 0 m σ H) ∧ ∀ i m σ H, W i m σ H →
     ((Itzs K z b).stop i H ∧ D.nx σ H) ∨ ((Itzs K z b).go i H ∧ ∃ N : St → Hp → Prop, (∀ σ' H', N σ' H' → ∃ m', m' < m ∧ W (i + 1) m' σ' H') ∧ ∀ x H', (Itzs K z b).yld i H x H' → g x σ H' fun σ2 H2 => tb { D with nx := N, ct := N, bk := D.nx } σ2 H2) := by
 refine ⟨fun i m σ H => m = min z.cps.size ys.length - i ∧ i ≤ min z.cps.size ys.length ∧ Pv i σ H, ⟨_, rfl, Nat.zero_le _, h0⟩, ?_⟩
 rintro i m σ H ⟨rfl, hi, p⟩
 have q := hl i σ H hi p
 by_cases hlt : i < min z.cps.size ys.length
 · have h1 : i < z.cps.size := by omega
   have h2 : i < ys.length := by omega
   refine .inr ⟨⟨ys, z.cps[i], ys[i], q, by simp [h1], by simp [h2]⟩, Pv (i + 1), fun σ' H' p' => ⟨_, (by omega : min z.cps.size ys.length - (i + 1) < _), rfl, hlt, p'⟩, fun v H' y => ?_⟩
   obtain ⟨t, c, y, ht, e1, e2, ec, ey⟩ := y
   subst e1 e2
   exact hs i c y t σ _ ec (ey ys q) ht p
 · have e : i = min z.cps.size ys.length := by omega
   subst e
   exact .inl ⟨⟨ys, q, rfl⟩, hd σ H p⟩
end L2

set_option Elab.async false
set_option linter.all false
set_option maxRecDepth 100000
set_option maxHeartbeats 4000000
namespace L2
open PySem PySem.Spec PyProof.Rows
section
variable {X : Cx}
theorem any_range (bs : List Bool) : ((List.range bs.length).any fun i => bs.getD i true) = bs.any id := by
 rw [Bool.eq_iff_iff, List.any_eq_true, List.any_eq_true]
 constructor
 · rintro ⟨i, hi, h⟩
   have hi' : i < bs.length := by simpa using hi
   exact ⟨bs[i], List.getElem_mem hi', by simpa [List.getD, hi'] using h⟩
 · rintro ⟨b, hb, h⟩
   obtain ⟨i, hi, rfl⟩ := List.mem_iff_getElem.mp hb
   exact ⟨i, by simpa using hi, by simpa [List.getD, hi] using h⟩
def rAny (K : PySem.W.Frag) : List V → Hp → VK → Prop := fun xs H Q => ∃ (p : Addr) (bs : List Bool), xs = [.ref p] ∧ SqL K H p (bs.map V.bl) ∧ Q (.bl (bs.any id)) H
theorem call_any (hc : X.calm = true) : CallR X (.builtin "any") (rAny X.K) := by
 intro pins s σ H xs us Q I r h
 obtain ⟨p, bs, rfl, hq, q⟩ := h
 obtain ⟨u, rfl, ru⟩ := vals1 r
 cases ru
 obtain ⟨its, rv, pl, hz⟩ := I.list hq
 have hlen := rv.length
 rw [List.length_map] at hlen
 have hpl : p < s.heap.objs.size := by obtain ⟨o, ho, _⟩ := pl.isList; exact Heap.lt_size ho
 refine call_any_walk (wpAny_pyIter_list pl.isList ⟨s.heap.objs.size, _, _, _, _, _, fun i => bs.getD i true, rfl, Walks.list (A := X.A.in1) (show X.A.in1.handled = none from I.ok.hd hc) s.heap.objs.size p (Nat.ne_of_lt hpl) its.toArray, ⟨⟨_, Heap.get?_push_size _ rfl, rfl, rfl⟩, pl.isList.at fun o e => Heap.get?_push_of_some _ e⟩, ?_, ?_⟩)
 · intro i v s' Q' E' hv hq'
   have e : its[i]? = some v := by simpa using hv
   rw [vals_bl_get rv e]
   exact wpAny_truthy_bool hq'
 · intro h' tk hk
   have f0 := I.fpOk (Nat.le_refl s.heap.objs.size) (I.hok.fresh (Nat.le_refl _))
   have I2 : Inv X pins σ H { s with heap := s.heap.push { cls := .type "list_iterator", data := .fields #[.ref p, rawInt 0] } } := I.kept (t' := s.toks) fun b o e => Heap.get?_push_of_some _ e
   have I3 := I2.turned (h' := h') (t' := tk) (it := s.heap.objs.size) (fun b o hb e => hk b o (by simpa using hb) e) f0.1 f0.2.1 f0.2.2.2.1 f0.2.2.2.2.1 f0.2.2.2.2.2
   refine ⟨.bl (bs.any id), H, I3, ?_, q⟩
   show Value.bool _ = Value.bool _
   rw [List.size_toArray, ← hlen, any_range]
theorem callK_any (K : PySem.W.Frag) (h : X.K = K) (hc : X.calm = true) : CallR X (.builtin "any") (rAny K) := by subst h; exact call_any hc
end
theorem comp_enum {K : PySem.W.Frag} {a : Addr} {xs : List V} {g : TG} {tt : TT} {te : TE} {Q : VK} {D : Addr} {τ : St} {H : Hp} (Pv : Nat → List V → St → Hp → Prop) (h0 : Pv 0 [] τ (upd H D (.lst [])))
   (hl : ∀ i ys τ H, i ≤ xs.length → Pv i ys τ H → SqL K H a xs ∧ H D = some (.lst ys))
   (hs : ∀ i x t ys τ H, xs[i]? = some x → H t = none → Pv i ys τ H → g (.ref t) τ (upd H t (.tup [.int i, x])) fun τ2 H2 => tt τ2 H2 fun b H3 => if b = true then te τ2 H3 fun y H4 => H4 D = some (.lst ys) ∧ ys.length < sizeLine ∧ Pv (i + 1) (ys ++ [y]) τ2 (upd H4 D (.lst (ys ++ [y]))) else Pv (i + 1) ys τ2 H3)
   (hd : ∀ ys τ H, Pv xs.length ys τ H → Q (.ref D) H) :
   CompR (Ite K a) g tt te Q D τ H := by
 refine ⟨fun i m ys τ H => m = xs.length - i ∧ i ≤ xs.length ∧ Pv i ys τ H, ⟨xs.length, by simp, Nat.zero_le _, h0⟩, ?_⟩
 rintro i m ys τ H ⟨rfl, hi, p⟩
 obtain ⟨q, hD⟩ := hl i ys τ H hi p
 refine ⟨hD, ?_⟩
 by_cases hlt : i < xs.length
 · refine .inr ⟨⟨xs, xs[i], q, by simp [hlt]⟩, Pv (i + 1), fun zs σ' H' p' => ⟨xs.length - (i + 1), by omega, rfl, hlt, p'⟩, fun v H' y => ?_⟩
   obtain ⟨t, x, ht, e1, e2, ex⟩ := y
   subst e1 e2
   exact hs i x t ys τ _ (ex xs q) ht p
 · have e : i = xs.length := by omega
   subst e
   exact .inl ⟨⟨xs, q, rfl⟩, hd ys τ H p⟩
end L2

set_option Elab.async false
set_option linter.all false
set_option maxRecDepth 100000
set_option maxHeartbeats 4000000
namespace L2
open PySem PySem.Spec PyProof.Rows
inductive CmpD (K : PySem.W.Frag) (H : Hp) : Nat → V → V → Bool → Prop where
 | flat {n : Nat} {x y : V} : flatV x = true → flatV y = true → CmpD K H n x y (eqV x y)
 | same {n : Nat} {a : Addr} : CmpD K H n (.ref a) (.ref a) true
 | tup {n : Nat} {a b : Addr} {xs ys : List V} {e : Nat → Bool} : a ≠ b → SqT K H a xs → SqT K H b ys → (∀ (j : Nat) x y, xs[j]? = some x → ys[j]? = some y → CmpD K H n x y (e j)) → CmpD K H (n + 1) (.ref a) (.ref b) ((List.range (min xs.length ys.length)).all e && xs.length == ys.length)
 | lst {n : Nat} {a b : Addr} {xs ys : List V} {e : Nat → Bool} : a ≠ b → SqL K H a xs → SqL K H b ys → xs.length = ys.length → (∀ (j : Nat) x y, xs[j]? = some x → ys[j]? = some y → CmpD K H n x y (e j)) → CmpD K H (n + 1) (.ref a) (.ref b) ((List.range xs.length).all e)
 | len {n : Nat} {a b : Addr} {xs ys : List V} : a ≠ b → SqL K H a xs → SqL K H b ys → xs.length ≠ ys.length → CmpD K H (n + 1) (.ref a) (.ref b) false
section
variable {X : Cx} {pins : List (Addr × Obj)} {σ : St} {H : Hp} {s : Shared}
theorem items_cmp {A : Around} {e : Nat → Bool} {xs ys : List V} {us ws : List Value} (r1 : Vals xs us) (r2 : Vals ys ws) (h : ∀ (j : Nat) x y u w, xs[j]? = some x → ys[j]? = some y → RelV x u → RelV y w → SeqAt.EqAt A s u w (e j)) (j : Nat) (h1 : j < us.toArray.size) (h2 : j < ws.toArray.size) :
   SeqAt.EqAt A s us.toArray[j] ws.toArray[j] (e j) := by
 have hl1 := r1.length
 have hl2 := r2.length
 have hj1 : j < xs.length := by rw [hl1]; simpa using h1
 have hj2 : j < ys.length := by rw [hl2]; simpa using h2
 obtain ⟨u, eu, ru⟩ := r1.get (i := j) (x := xs[j]) (by simp [hj1])
 obtain ⟨w, ew, rw'⟩ := r2.get (i := j) (x := ys[j]) (by simp [hj2])
 have e1 : us.toArray[j] = u := by
   obtain ⟨_, q⟩ := List.getElem?_eq_some_iff.mp eu
   simpa using q
 have e2 : ws.toArray[j] = w := by
   obtain ⟨_, q⟩ := List.getElem?_eq_some_iff.mp ew
   simpa using q
 rw [e1, e2]
 exact h j _ _ u w (by simp [hj1]) (by simp [hj2]) ru rw'
theorem eqAt_cmp (I : Inv X pins σ H s) {n : Nat} {x y : V} {b : Bool} (h : CmpD X.K H n x y b) : ∀ {A : Around} {u v : Value}, A.units + n < cLine → RelV x u → RelV y v → SeqAt.EqAt A s u v b := by
 induction h with
 | flat f1 f2 => intro A u v _ ru rv; exact eqAt_V ru rv f1 f2
 | same => intro A u v _ ru rv; cases ru; cases rv; exact SeqAt.EqAt.same _
 | @tup n a b xs ys e ne ha hb _ ih =>
   intro A u v hu ru rv
   cases ru; cases rv
   obtain ⟨its, r1, p1, _⟩ := I.tuple ha
   obtain ⟨its2, r2, p2, _⟩ := I.tuple hb
   refine SeqAt.EqAt.of_refs ne ?_
   have q := SeqAt.RcAt.tuples (A := A) (e := e) p1 p2 (by omega) fun j h1 h2 => items_cmp r1 r2 (fun j x y u w ex ey ru rw' => ih j x y ex ey (by show A.units + 1 + n < cLine; omega) ru rw') j h1 h2
   rw [List.size_toArray, List.size_toArray, ← r1.length, ← r2.length] at q
   exact q
 | @lst n a b xs ys e ne ha hb hl _ ih =>
   intro A u v hu ru rv
   cases ru; cases rv
   obtain ⟨its, r1, p1, _⟩ := I.list ha
   obtain ⟨its2, r2, p2, _⟩ := I.list hb
   refine SeqAt.EqAt.of_refs ne ?_
   have q := SeqAt.RcAt.lists (A := A) (e := e) p1.isList p2.isList (by rw [List.size_toArray, List.size_toArray, ← r1.length, ← r2.length, hl]) (by omega) fun j h1 h2 => items_cmp r1 r2 (fun j x y u w ex ey ru rw' => ih j x y ex ey (by show A.units + 1 + n < cLine; omega) ru rw') j h1 h2
   rw [List.size_toArray, ← r1.length] at q
   exact q
 | @len n a b xs ys ne ha hb hl =>
   intro A u v hu ru rv
   cases ru; cases rv
   obtain ⟨its, r1, p1, _⟩ := I.list ha
   obtain ⟨its2, r2, p2, _⟩ := I.list hb
   refine SeqAt.EqAt.of_refs ne ?_
   exact SeqAt.RcAt.lists_lengths (A := A) p1.isList p2.isList (by rw [List.size_toArray, List.size_toArray, ← r1.length, ← r2.length]; simpa using hl) (by omega)
end
section
variable {X : Cx}
inductive TopC (K : PySem.W.Frag) (H : Hp) : V → V → Bool → Prop where
 | tup {n : Nat} {a b : Addr} {xs ys : List V} {e : Nat → Bool} : n ≤ 50 → SqT K H a xs → SqT K H b ys → (∀ (j : Nat) x y, xs[j]? = some x → ys[j]? = some y → CmpD K H n x y (e j)) → TopC K H (.ref a) (.ref b) ((List.range (min xs.length ys.length)).all e && xs.length == ys.length)
 | lst {n : Nat} {a b : Addr} {xs ys : List V} {e : Nat → Bool} : n ≤ 50 → SqL K H a xs → SqL K H b ys → xs.length = ys.length → (∀ (j : Nat) x y, xs[j]? = some x → ys[j]? = some y → CmpD K H n x y (e j)) → TopC K H (.ref a) (.ref b) ((List.range xs.length).all e)
 | len {a b : Addr} {xs ys : List V} : SqL K H a xs → SqL K H b ys → xs.length ≠ ys.length → TopC K H (.ref a) (.ref b) false
def rNeC (K : PySem.W.Frag) : R2 := fun x y H Q => ∃ b, TopC K H x y b ∧ Q (.bl (!b)) H
theorem op_neC (K : PySem.W.Frag) (hK : X.K = K) (hu : X.A.units + 64 < cLine) : OpR X (compareOp .NotEq) (rNeC K) := by
 subst hK
 intro pins s σ H x y v u Q I rx ry h
 obtain ⟨b, hk, q⟩ := h
 cases hk with
 | @tup n a b xs ys e hn ha hb hs =>
   cases rx; cases ry
   show wpAny _ _ (richCompare .NotEq (.ref a) (.ref b)) _ _ _
   obtain ⟨its, r1, p1, _⟩ := I.tuple ha
   obtain ⟨its2, r2, p2, _⟩ := I.tuple hb
   refine SeqAt.RcNeAt.tuples (e := e) p1 p2 (by omega) (fun j h1 h2 => items_cmp r1 r2 (fun j x y u w ex ey ru rw' => eqAt_cmp I (hs j x y ex ey) (by show X.A.units + 1 + n < cLine; omega) ru rw') j h1 h2) _ _ _ _ ⟨.bl _, H, I, ?_, q⟩
   show Value.bool _ = Value.bool _
   rw [List.size_toArray, List.size_toArray, ← r1.length, ← r2.length]
 | @lst n a b xs ys e hn ha hb hl hs =>
   cases rx; cases ry
   show wpAny _ _ (richCompare .NotEq (.ref a) (.ref b)) _ _ _
   obtain ⟨its, r1, p1, _⟩ := I.list ha
   obtain ⟨its2, r2, p2, _⟩ := I.list hb
   refine SeqAt.RcNeAt.lists (e := e) p1.isList p2.isList (by rw [List.size_toArray, List.size_toArray, ← r1.length, ← r2.length, hl]) (by omega) (fun j h1 h2 => items_cmp r1 r2 (fun j x y u w ex ey ru rw' => eqAt_cmp I (hs j x y ex ey) (by show X.A.units + 1 + n < cLine; omega) ru rw') j h1 h2) _ _ _ _ ⟨.bl _, H, I, ?_, q⟩
   show Value.bool _ = Value.bool _
   rw [List.size_toArray, ← r1.length]
 | @len a b xs ys ha hb hl =>
   cases rx; cases ry
   obtain ⟨its, r1, p1, _⟩ := I.list ha
   obtain ⟨its2, r2, p2, _⟩ := I.list hb
   show wpAny _ _ (richCompare .NotEq (.ref a) (.ref b)) _ _ _
   exact SeqAt.RcNeAt.lists_lengths p1.isList p2.isList (by rw [List.size_toArray, List.size_toArray, ← r1.length, ← r2.length]; simpa using hl) (by omega) _ _ _ _ ⟨.bl true, H, I, rfl, q⟩
end
end L2

set_option Elab.async false
set_option linter.all false
set_option maxRecDepth 100000
set_option maxHeartbeats 4000000
namespace L2
open PySem PySem.Spec PyProof.Rows
def FlAt (h₀ : Heap) (H : Hp) (h : Heap) (e : Addr) (vs : Array Value) : Option Value → Prop
 | none => vs[1]? = some .none ∧ vs[2]? = some .none
 | some v => ∃ T oT ts, vs[1]? = some (.ref T) ∧ H T = none ∧ h₀.get? T = none ∧ T ≠ e ∧ h.get? T = some oT ∧ oT.data = .fields ts ∧ ts[3]? = some v ∧ vs[2]? = some .none
theorem FlAt.cx {h₀ : Heap} {H : Hp} {h : Heap} {e : Addr} {vs : Array Value} {fl : Option Value} (x : FlAt h₀ H h e vs fl) : vs[2]? = some .none := by
 cases fl with
 | none => exact x.2
 | some v => obtain ⟨_, _, _, _, _, _, _, _, _, _, z⟩ := x; exact z
structure Exc (h₀ : Heap) (H : Hp) (h : Heap) (e : Addr) (C : Value) (od : Option Addr) (fl : Option Value) : Prop where
 fr : H e = none
 nw : h₀.get? e = none
 tr : ∃ oe vs, h.get? e = some oe ∧ oe.cls = C ∧ oe.dict = od ∧ oe.data = .fields vs ∧ FlAt h₀ H h e vs fl
structure Mv (fs ch : List Addr) (h h' : Heap) : Prop where
 keep : ∀ b o, b ∉ ch → b ∉ fs → h.get? b = some o → h'.get? b = some o
 slot : ∀ b o, b ∉ ch → h.get? b = some o → ∃ sl, h'.get? b = some { o with slots := sl }
 there : ∀ b o, h.get? b = some o → ∃ o', h'.get? b = some o'
theorem Mv.trans {fs ch : List Addr} {h h1 h2 : Heap} (a : Mv fs ch h h1) (b : Mv fs ch h1 h2) : Mv fs ch h h2 :=
 ⟨fun c o n1 n2 q => b.keep c o n1 n2 (a.keep c o n1 n2 q), fun c o n q => let ⟨sl, q1⟩ := a.slot c o n q; let ⟨sl2, q2⟩ := b.slot c _ n q1; ⟨sl2, q2⟩, fun c o q => let ⟨o1, q1⟩ := a.there c o q; b.there c o1 q1⟩
theorem Mv.mono {fs fs' ch ch' : List Addr} {h h' : Heap} (a : Mv fs ch h h') (hf : ∀ b ∈ fs, b ∈ fs') (hc : ∀ b ∈ ch, b ∈ ch') : Mv fs' ch' h h' :=
 ⟨fun c o n1 n2 q => a.keep c o (fun z => n1 (hc c z)) (fun z => n2 (hf c z)) q, fun c o n q => a.slot c o (fun z => n (hc c z)) q, a.there⟩
theorem Mv.refl {fs ch : List Addr} {h : Heap} : Mv fs ch h h := ⟨fun _ _ _ _ q => q, fun _ o _ q => ⟨o.slots, q⟩, fun _ o q => ⟨o, q⟩⟩
theorem Mv.of_slots {fs ch : List Addr} {h h' : Heap} (x : Heap.SlotsOnly fs h h') : Mv fs ch h h' :=
 ⟨fun b o _ n q => (x.2.1 b n).trans q, fun b o _ q => x.2.2 b o q, fun b o q => let ⟨sl, e⟩ := x.2.2 b o q; ⟨_, e⟩⟩
theorem Mv.push {fs ch : List Addr} {h : Heap} (o : Obj) : Mv fs ch h (h.push o) :=
 ⟨fun b u _ _ q => Heap.get?_push_of_some _ q, fun b u _ q => ⟨u.slots, Heap.get?_push_of_some _ q⟩, fun b u q => ⟨u, Heap.get?_push_of_some _ q⟩⟩
theorem Mv.upd {fs ch : List Addr} {h : Heap} {a : Addr} {f : Obj → Obj} {o : Obj} (ha : a ∈ ch) (q : h.get? a = some o) (hf : (f o).isFreed = false) : Mv fs ch h (h.update a f) := by
 have ne : ∀ b, b ∉ ch → a ≠ b := fun b n z => n (z ▸ ha)
 refine ⟨fun b u n _ e => (Heap.get?_update_other _ _ (ne b n)).trans e, fun b u n e => ⟨u.slots, (Heap.get?_update_other _ _ (ne b n)).trans e⟩, fun b u e => ?_⟩
 by_cases hb : a = b
 · subst hb; exact ⟨_, Heap.get?_update_self _ q hf⟩
 · exact ⟨u, (Heap.get?_update_other _ _ hb).trans e⟩
theorem Mv.frames {fs ch : List Addr} {h h' base : Heap} (x : Mv fs ch h h') {l : List Env} (hl : h.FunFrames base l) (hc : ∀ b ∈ ch, ∀ o, h.get? b = some o → ∃ vs, o.data = .fields vs) : h'.FunFrames base l :=
 hl.of_keeps fun b o q nf => by
   have n : b ∉ ch := fun z => let ⟨vs, e⟩ := hc b z o q; nf vs e
   obtain ⟨sl, e⟩ := x.slot b o n q
   exact ⟨_, e, rfl⟩

section
variable {M : Model} {A : Around} {E : Value → Shared → Prop} {s : Shared} {base : Heap} {env : Env} {outer : List Env} {L e : Addr} {Q : Unit → Shared → Prop}
theorem entry_new {oe : Obj} {vs : Array Value} {head : Value} {hn : Bool} (hfr : A.frames = some (env :: outer)) (hl : s.heap.FunFrames base (env :: outer)) (hf : env.frame = some L)
   (he : s.heap.get? e = some oe) (hd : oe.data = .fields vs) (hsz : 1 < vs.size)
   (k : ∀ h' T oT ts, Mv (frs (env :: outer)) [e] s.heap h' → s.heap.objs.size ≤ T → T ≠ e → h'.get? e = some (oe.mapFields (·.setIfInBounds 1 (.ref T))) → h'.get? T = some oT → oT.data = .fields ts → ts[3]? = some (rawInt L) → Q () { s with heap := h' }) :
   wpAny M A (do let a ← frameOf env; let pl ← entryPlaceOf L hn; let b ← EntryCells.newEntry head a .none (rawInt L) .none pl; setField (.ref e) 1 b) Q E s := by
 have hnf : e ∉ (env :: outer).filterMap (·.frame) := fun z => by
   obtain ⟨_, o, ho, nf⟩ := hl.mem z
   rw [he] at ho
   cases ho
   exact nf vs hd
 refine wpAny_bind (wpAny_frameOf_fun hfr hl hf fun h1 s1 => wpAny_bind (wpAny_entryPlaceOf fun pl hpl => ?_))
 unfold EntryCells.newEntry newFields
 refine wpAny_bind (wpAny_newObj_type ?_ (hpl.sizeOk5 _ _ _ _ _))
 have e1 : h1.get? e = some oe := (s1.2.1 e hnf).trans he
 have e2 := fun o => Heap.get?_push_of_some (h := h1) o e1
 refine wpAny_setField (e2 _) hd hsz ?_
 have hne : h1.objs.size ≠ e := Nat.ne_of_gt (Heap.lt_size e1)
 have fd := Obj.data_mapFields hd (·.setIfInBounds 1 (Value.ref h1.objs.size))
 have m1 : Mv (frs (env :: outer)) [e] s.heap h1 := Mv.of_slots s1
 refine k _ h1.objs.size _ _ ((m1.trans (Mv.push _)).trans (Mv.upd (List.mem_singleton.mpr rfl) (e2 _) (Obj.isFreed_of_fields fd))) ?_ hne (Heap.get?_update_self _ (e2 _) (Obj.isFreed_of_fields fd)) ((Heap.get?_update_other _ _ (Ne.symm hne)).trans (Heap.get?_push_size h1 rfl)) rfl ?_
 · rw [s1.1]; exact Nat.le_refl _
 · first | (simp; done) | (rcases hpl with rfl | ⟨_, _, _, _, _, _, _, rfl⟩ <;> simp)
end

section
variable {M : Model} {A : Around} {E : Value → Shared → Prop} {s : Shared} {base h₀ : Heap} {H : Hp} {env : Env} {outer : List Env} {L e : Addr} {C : Value} {od : Option Addr} {Q : Unit → Shared → Prop}
def ChOk (h₀ : Heap) (H : Hp) (ch : List Addr) : Prop := ∀ b ∈ ch, H b = none ∧ h₀.get? b = none
theorem mapF_cls (oe : Obj) (f : Array Value → Array Value) : (oe.mapFields f).cls = oe.cls := Obj.cls_mapFields _ _
theorem mapF_dict (oe : Obj) (f : Array Value → Array Value) : (oe.mapFields f).dict = oe.dict := by
 obtain ⟨c, d, dt, sl⟩ := oe
 cases dt <;> rfl
theorem note_exc {fl : Option Value} (hfr : A.frames = some (env :: outer)) (hl : s.heap.FunFrames base (env :: outer)) (hf : env.frame = some L)
   (x : Exc h₀ H s.heap e C od fl) (hfl : fl = none ∨ fl = some .none ∨ fl = some (rawInt L))
   (ht : ∀ b o, h₀.get? b = some o → ∃ o', s.heap.get? b = some o') (hH : ∀ b, s.heap.objs.size ≤ b → H b = none)
   (k : ∀ h' ch, ChOk h₀ H ch → Mv (frs (env :: outer)) ch s.heap h' → Exc h₀ H h' e C od (some (rawInt L)) → Q () { s with heap := h' }) :
   wpAny M A (noteFrame (.ref e) env) Q E s := by
 obtain ⟨fr, nw, oe, vs, he, hc, hdi, hd, fa⟩ := x
 have new0 : ∀ T, s.heap.get? T = none → h₀.get? T = none := fun T hT => by
   cases q : h₀.get? T with
   | none => rfl
   | some o => obtain ⟨o', z⟩ := ht T o q; rw [hT] at z; cases z
 unfold noteFrame
 simp only [hf]
 rcases hfl with rfl | rfl | rfl
 · obtain ⟨h1, hx2⟩ := fa
   refine wpAny_bind (wpAny_field he hd h1 ?_)
   rw [if_neg (by decide)]
   have hsz := (Array.getElem?_eq_some_iff.mp h1).1
   refine entry_new hfr hl hf he hd hsz fun h' T oT ts m zT hne e1 eT dT t3 => ?_
   have nT : s.heap.get? T = none := Heap.get?_none_of_le zT
   have hT : H T = none := hH T zT
   refine k h' [e] (fun b hb => ?_) m ⟨fr, nw, _, _, e1, (mapF_cls _ _).trans hc, (mapF_dict _ _).trans hdi, Obj.data_mapFields hd _, T, oT, ts, by simp [hsz], hT, new0 T nT, hne, eT, dT, t3, by rw [Array.getElem?_setIfInBounds_ne (by decide)]; exact hx2⟩
   rw [List.mem_singleton.mp hb]
   exact ⟨fr, nw⟩
 · obtain ⟨T0, o0, t0, h1, n0, w0, ne0, q0, d0, z3, hx2⟩ := fa
   refine wpAny_bind (wpAny_field he hd h1 ?_)
   rw [if_pos (show (Value.ref T0 != Value.none) = true from by simp)]
   refine wpAny_bind (wpAny_field q0 d0 z3 ?_)
   rw [if_neg (show ¬ ((Value.none == rawInt L) = true) from by simp [rawInt])]
   have z3s := (Array.getElem?_eq_some_iff.mp z3).1
   refine wpAny_bind (wpAny_setField q0 d0 z3s ?_)
   have hsz := (Array.getElem?_eq_some_iff.mp h1).1
   have m0 : Mv (frs (env :: outer)) [e, T0] s.heap (s.heap.update T0 (Obj.mapFields (·.setIfInBounds 3 Value.none))) :=
     Mv.upd (List.mem_cons_of_mem _ (List.mem_singleton.mpr rfl)) q0 (Obj.isFreed_of_fields (Obj.data_mapFields d0 _))
   have he1 : (s.heap.update T0 (Obj.mapFields (·.setIfInBounds 3 Value.none))).get? e = some oe := (Heap.get?_update_other _ _ ne0).trans he
   have hl1 : (s.heap.update T0 (Obj.mapFields (·.setIfInBounds 3 Value.none))).FunFrames base (env :: outer) := m0.frames hl fun b hb o q => by
     rcases List.mem_cons.mp hb with rfl | hb
     · rw [he] at q; cases q; exact ⟨vs, hd⟩
     · rw [List.mem_singleton.mp hb, q0] at q; cases q; exact ⟨t0, d0⟩
   have zs : (s.heap.update T0 (Obj.mapFields (·.setIfInBounds 3 Value.none))).objs.size = s.heap.objs.size := Heap.size_after_update ..
   refine entry_new (s := { s with heap := s.heap.update T0 (Obj.mapFields (·.setIfInBounds 3 Value.none)) }) hfr hl1 hf he1 hd hsz fun h' T oT ts m zT hne e1 eT dT t3 => ?_
   have zT : s.heap.objs.size ≤ T := by rw [← zs]; exact zT
   have nT : s.heap.get? T = none := Heap.get?_none_of_le zT
   refine k h' [e, T0] (fun b hb => ?_) (m0.trans (m.mono (fun _ z => z) fun b z => by rw [List.mem_singleton.mp z]; exact List.mem_cons_self)) ⟨fr, nw, _, _, e1, (mapF_cls _ _).trans hc, (mapF_dict _ _).trans hdi, Obj.data_mapFields hd _, T, oT, ts, by simp [hsz], hH T zT, new0 T nT, hne, eT, dT, t3, by rw [Array.getElem?_setIfInBounds_ne (by decide)]; exact hx2⟩
   rcases List.mem_cons.mp hb with rfl | hb
   · exact ⟨fr, nw⟩
   · rw [List.mem_singleton.mp hb]; exact ⟨n0, w0⟩
 · obtain ⟨T0, o0, t0, h1, n0, w0, ne0, q0, d0, z3, hx2⟩ := fa
   refine wpAny_bind (wpAny_field he hd h1 ?_)
   rw [if_pos (show (Value.ref T0 != Value.none) = true from by simp)]
   refine wpAny_bind (wpAny_field q0 d0 z3 ?_)
   rw [if_pos (show (rawInt L == rawInt L) = true from by simp)]
   refine wpAny_pure ?_
   exact k s.heap [] (fun b hb => nomatch hb) Mv.refl ⟨fr, nw, oe, vs, he, hc, hdi, hd, T0, o0, t0, h1, n0, w0, ne0, q0, d0, z3, hx2⟩

theorem land_exc {v : Value} (x : Exc h₀ H s.heap e C od (some v)) (k : ∀ h' ch, ChOk h₀ H ch → Mv [] ch s.heap h' → Exc h₀ H h' e C od (some .none) → Q () { s with heap := h' }) :
   wpAny M A (setFlight (.ref e) none) Q E s := by
 obtain ⟨fr, nw, oe, vs, he, hc, hdi, hd, T, oT, ts, h1, n0, w0, ne0, q0, d0, z3, hx2⟩ := x
 have hsz := (Array.getElem?_eq_some_iff.mp z3).1
 refine wpAny_setFlight_none he hd h1 q0 d0 hsz (k _ [T] (fun b hb => ?_) (Mv.upd (List.mem_singleton.mpr rfl) q0 (Obj.isFreed_of_fields (Obj.data_mapFields d0 _))) ⟨fr, nw, oe, vs, (Heap.get?_update_other _ _ ne0).trans he, hc, hdi, hd, T, _, _, h1, n0, w0, ne0, Heap.get?_update_self _ q0 (Obj.isFreed_of_fields (Obj.data_mapFields d0 _)), Obj.data_mapFields d0 _, by simp [hsz], hx2⟩)
 rw [List.mem_singleton.mp hb]
 exact ⟨n0, w0⟩
theorem leave_exc {fl : Option Value} (hfr : A.frames = some (env :: outer)) (hl : s.heap.FunFrames base (env :: outer)) (hf : env.frame = some L)
   (x : Exc h₀ H s.heap e C od fl) (hfl : fl = none ∨ fl = some .none ∨ fl = some (rawInt L))
   (ht : ∀ b o, h₀.get? b = some o → ∃ o', s.heap.get? b = some o') (hH : ∀ b, s.heap.objs.size ≤ b → H b = none)
   (k : ∀ h' ch, ChOk h₀ H ch → Mv (frs (env :: outer)) ch s.heap h' → Exc h₀ H h' e C od (some .none) → Q () { s with heap := h' }) :
   wpAny M A (leaving env (.ref e)) Q E s := by
 unfold leaving
 refine wpAny_bind (note_exc hfr hl hf x hfl ht hH fun h1 c1 k1 m1 x1 => ?_)
 refine land_exc x1 fun h2 c2 k2 m2 x2 => ?_
 refine k h2 (c1 ++ c2) (fun b hb => (List.mem_append.mp hb).elim (k1 b) (k2 b)) ((m1.mono (fun _ z => z) fun b z => List.mem_append_left _ z).trans (m2.mono (fun b z => nomatch z) fun b z => List.mem_append_right _ z)) x2
end

section
variable {X : Cx} {pins : List (Addr × Obj)} {σ σ' : St} {H H' : Hp} {s s1 : Shared}
theorem Inv.mv {h' : Heap} {ch : List Addr} (I : Inv X pins σ H s) (J : Inv X pins σ' H' s1) (m : Mv (frs X.stack) ch s1.heap h') (hc : ∀ b ∈ ch, H' b = none ∧ s.heap.get? b = none) : Inv X pins σ' H' { s1 with heap := h' } := by
 have nch : ∀ b o, s.heap.get? b = some o → b ∉ ch := fun b o e z => by rw [(hc b z).2] at e; cases e
 have n0 : ∀ b o, X.s₀.heap.get? b = some o → b ∉ X.ex → b ∉ ch := fun b o e hx => let ⟨o', e'⟩ := I.base.there b o e hx; nch b o' e'
 have neL : ∀ b o, X.s₀.heap.get? b = some o → b ≠ X.env.locals := fun b o e => Nat.ne_of_lt (Nat.lt_of_lt_of_le (Heap.lt_size e) I.ok.above)
 have nst : ∀ b, b ≠ X.env.locals → b ∉ X.fs → b ∉ frs X.stack := fun b h1 h2 z => (List.mem_cons.mp (I.stkSub b z)).elim h1 h2
 have cellK : ∀ x c, X.env.cells.lookup x = some c → ∀ v, s1.heap.IsCell c v → Heap.IsCell h' c v := fun x c e v ⟨o, ho, hd⟩ => by
   obtain ⟨v0, o0, e0, _⟩ := I.cell x c e
   obtain ⟨sl, q⟩ := m.slot c o (nch c o0 e0) ho
   exact ⟨_, q, hd⟩
 have locO : ∃ o, s.heap.get? X.env.locals = some o := let ⟨m', ⟨o, _, _, ho, _⟩, _⟩ := I.loc; ⟨o, ho⟩
 obtain ⟨oL, eL⟩ := locO
 refine ⟨J.ok, J.os, J.bare, ⟨fun b o e n hb hx => m.keep b o (n0 b o e hx) (nst b (neL b o e) hb) (J.base.keep b o e n hb hx), fun b o e n hb hx => ?_, J.base.free, fun b o e hx => ?_, J.base.tups, J.base.frzs, J.base.tbls⟩, ?_, fun x c e => ?_, J.free, J.freeC, fun p hp => ?_, fun a o e => ?_, J.len⟩
 · obtain ⟨sl, e1⟩ := J.base.slot b o e n hb hx
   obtain ⟨sl2, e2⟩ := m.slot b _ (n0 b o e hx) e1
   exact ⟨sl2, e2⟩
 · obtain ⟨o', e1⟩ := J.base.there b o e hx
   exact m.there b o' e1
 · obtain ⟨mm, ⟨o, es, ep, ho, r⟩, hl⟩ := J.loc
   obtain ⟨sl, q⟩ := m.slot _ o (nch _ oL eL) ho
   refine ⟨mm, ⟨_, es, ep, q, r⟩, fun i x v e1 e2 e3 => ?_⟩
   obtain ⟨u, r1, l⟩ := hl i x v e1 e2 e3
   refine ⟨u, r1, ?_⟩
   rcases l with l | ⟨k, c, e, z⟩
   · exact .inl l
   · exact .inr ⟨k, c, e, cellK x c e _ z⟩
 · obtain ⟨v, z⟩ := J.cell x c e
   exact ⟨v, cellK x c e v z⟩
 · obtain ⟨e0, _, _, _, _⟩ := I.pin p hp
   obtain ⟨e, n, ne, nf, d⟩ := J.pin p hp
   exact ⟨m.keep p.1 p.2 (nch _ _ e0) (nst _ ne nf) e, n, ne, nf, d⟩
 · refine (J.hok a o e).stay (fun b u hb q => m.keep b u (fun z => ?_) (fun z => ?_) q) (fun _ q => q) fun _ _ q => q
   · have := (hc b z).1
     rcases hb with rfl | hb
     · rw [this] at e; cases e
     · rw [this] at hb; cases hb
   · have := J.stkFree b z
     rcases hb with rfl | hb
     · rw [this] at e; cases e
     · rw [this] at hb; cases hb
def CXe (P : Program) (w : World) : CXT := fun outer H s E e s' => ∃ ea C od H', e = .ref ea ∧ s'.os = s.os ∧ AllBare s'.gens ∧ Un (frs outer) [] H H' s.heap s'.heap ∧ HOk P w H' s'.heap ∧ Exc s.heap H' s'.heap ea C od (some .none) ∧ E C od H'

theorem Exc.older {h₀ h1 h : Heap} {H : Hp} {e : Addr} {C : Value} {od : Option Addr} {fl : Option Value} (x : Exc h1 H h e C od fl) (ht : ∀ b, h1.get? b = none → h₀.get? b = none) : Exc h₀ H h e C od fl := by
 obtain ⟨fr, nw, oe, vs, he, hc, hdi, hd, fa⟩ := x
 refine ⟨fr, ht _ nw, oe, vs, he, hc, hdi, hd, ?_⟩
 cases fl with
 | none => exact fa
 | some v => obtain ⟨T, oT, ts, h1, n0, w0, r⟩ := fa; exact ⟨T, oT, ts, h1, n0, ht _ w0, r⟩
theorem leaveX {E : XK} {E' : Value → Shared → Prop} {ea : Addr} {C : Value} {od : Option Addr} {fl : Option Value} (hst : X.stack = X.env :: X.outer) (hfm : X.env.frame = some X.env.locals) (hex : X.ex = [])
   (I : Inv X pins σ H s) (J : Inv X pins σ' H' s1) (ht : ∀ b o, s.heap.get? b = some o → ∃ o', s1.heap.get? b = some o') (x : Exc s.heap H' s1.heap ea C od fl) (hfl : fl = none ∨ fl = some .none ∨ fl = some (rawInt X.env.locals)) (hE : E C od H') :
   wpAny (model X.prog X.w) X.A (leaving X.env (.ref ea)) (fun _ s'' => CXe X.prog X.w X.outer X.H₀ X.s₀ E (.ref ea) s'') E' s1 := by
 have hl := J.stack
 rw [hst] at hl
 refine leave_exc (J.ok.frames.trans (by rw [hst])) hl hfm x hfl ht (fun b hb => J.hok.fresh hb) fun h' ch hc m x' => ?_
 have K := I.mv J (h' := h') (by rw [hst]; exact m) hc
 have old : ∀ b, s.heap.get? b = none → X.s₀.heap.get? b = none := fun b hb => by
   cases q : X.s₀.heap.get? b with
   | none => rfl
   | some o => obtain ⟨o', z⟩ := I.base.there b o q (by rw [hex]; simp); rw [hb] at z; cases z
 have U := K.base
 rw [hex] at U
 exact ⟨ea, C, od, H', rfl, J.os, J.bare, U, K.hok, x'.older old, hE⟩
end

section
variable {P : Program} {w : World} {K : PySem.W.Frag} {mg : Str → Option Value} {base : Heap} {N : List Str} {qual : Str} {scope : Scope} {f : Addr} {cd : Value} {A : Around} {outer : List Env} {s : Shared} {H : Hp} {E : XK}
theorem passE : Passes (CXe P w) (cxOf (CXe P w) P w K mg base N qual scope f cd A outer s H E) E := by
 rintro pins σ H1 s1 e s' I ⟨ea, C, od, H', rfl, os, bare, un, hok, x, hE⟩
 have J := I.call' os un hok bare (fun b z => nomatch z)
 exact leaveX (X := cxOf (CXe P w) P w K mg base N qual scope f cd A outer s H E) rfl rfl rfl I J (fun b o q => un.there b o q (by simp)) x (.inr (.inl rfl)) hE
theorem Fun.okE {x : Str} {st : Stmt} {fd : FuncData} {ps : List Str} {k : Nat} {sp : Sp} (F : Fun K x qual st f fd) (S : FnScope N ps (defScope st)) (len : ∀ vs H Q E, sp vs H Q E → vs.length = ps.length)
   (hbody : ∀ (cdv : Value) (A : Around) (outer : List Env) (s : Shared) (H : Hp) (vs : List V) (Q : VK) (E : XK), Room k (A.deeper (envOfC qual (defScope st) s.heap.objs.size f cdv)) → sp vs H Q E →
     ∃ t, PSs (cxOf (CXe P w) P w K mg base N qual (defScope st) f cdv A outer s H E) (defBody st) t ∧ t { nx := fun _ H' => Q .non H', rt := Q } (start N vs) H) : FnOk P w K mg base (CXe P w) (k + 1) f fd ps sp := by
 obtain ⟨oc, od, kV, doc, pm, an, cdv, ct, osl, rfl, lk, hcd⟩ := F.ex
 exact fn_of lk hcd S len fun A outer s H vs Q E hr hsp => hbody cdv A outer s H vs Q E hr hsp
end
end L2

set_option Elab.async false
set_option linter.all false
set_option maxRecDepth 100000
set_option maxHeartbeats 4000000
namespace L2
open PySem PySem.Spec PyProof.Rows

theorem ObjOk.ex {P : Program} {w : World} {H : Hp} {h : Heap} {a : Addr} {o : HO} (x : ObjOk P w H h a o) : ∃ u, h.get? a = some u := by
 cases o with
 | lst xs => obtain ⟨_, _, _, _, e⟩ := x; exact ⟨_, e⟩
 | tup xs => obtain ⟨_, _, _, ob, e, _⟩ := x; exact ⟨_, e⟩
 | dK kvs => obtain ⟨_, _, _, _, o, _, _, e, _⟩ := x; exact ⟨_, e⟩
 | dT kvs => obtain ⟨_, _, _, _, o, _, _, e, _⟩ := x; exact ⟨_, e⟩
 | set S n => obtain ⟨o, _, _, _, e, _⟩ := x; exact ⟨_, e⟩
 | ins C dx fs => obtain ⟨_, _, _, e, _⟩ := x; exact ⟨_, e⟩
 | own y => exact x
 | xd fs => obtain ⟨_, ⟨_, _, _, e, _⟩, _⟩ := x; exact ⟨_, e⟩
 | rng lo hi => obtain ⟨_, _, _, e⟩ := x; exact ⟨_, e⟩
 | frz ob u => obtain ⟨e, _⟩ := x; exact ⟨_, e⟩
 | tbl ps => exact ⟨_, x⟩
 | met f y => exact ⟨_, x⟩
 | ext φ => exact x.2.1
theorem HOk.none {P : Program} {w : World} {H : Hp} {h : Heap} {a : Addr} (x : HOk P w H h) (e : h.get? a = Option.none) : H a = Option.none := by
 cases q : H a with
 | none => rfl
 | some u => obtain ⟨o, z⟩ := (x a u q).ex; rw [e] at z; cases z
abbrev bmVE : List Value := [.type "ValueError", .type "Exception", .type "BaseException", .type "object"]
structure XCl (K : PySem.W.Frag) (C N : Addr) (bm : List Value) (ini : Option Value) : Prop where
 ob : ∃ nm q bs hdct sn sub ab col dd k0 k1 k2 k3 k5, K.lookup C = some (excClassObj nm q C N bs bm hdct sn sub ab col dd k0 k1 k2 k3 k5 "ValueError.__new__")
 ns : ∃ oc od es n sl, K.lookup N = some ⟨oc, od, .dict es n, sl⟩ ∧ (es.toList.all fun e => match e.key with | .str _ _ => true | _ => false) = true
 ini : PySem.W.nsIn K N "__init__" = some ini
def XTl (K : PySem.W.Frag) (bm : List Value) : Prop := bm = bmVE ∨ ∃ D ND, bm = .ref D :: bmVE ∧ XCl K D ND bmVE none
section
variable {K : PySem.W.Frag} {h : Heap} {C N : Addr} {bm : List Value} {ini : Option Value}
theorem XCl.names (x : XCl K C N bm ini) : ∃ m : Str → Option Value, m "__init__" = ini ∧ ∀ h, K.In h → h.Ns N m := by
 obtain ⟨oc, od, es, n, sl, lk, al⟩ := x.ns
 have sk : StrKeys es := fun e he => by
   have z := List.all_eq_true.mp al e (by simpa using he)
   revert z
   cases e.key <;> intro z <;> first | exact ⟨_, _, rfl⟩ | cases z
 refine ⟨nsFind es, ?_, fun h kin => ⟨_, es, n, kin _ _ lk, rfl, sk, fun _ => rfl⟩⟩
 have e := x.ini
 unfold PySem.W.nsIn at e
 rw [lk] at e
 dsimp only at e
 unfold nsFind findBy
 rw [← Array.find?_toList]
 cases q : es.toList.find? (·.key.isStr "__init__") with
 | some en =>
   rw [q] at e
   exact Option.some.inj e
 | none =>
   rw [q] at e
   dsimp only at e
   split at e
   · cases e
   · exact Option.some.inj e
theorem XCl.obj (x : XCl K C N bm ini) (kin : K.In h) : ∃ nm q bs hdct sn sub ab col dd k0 k1 k2 k3 k5, h.get? C = some (excClassObj nm q C N bs bm hdct sn sub ab col dd k0 k1 k2 k3 k5 "ValueError.__new__") := by
 obtain ⟨nm, q, bs, hdct, sn, sub, ab, col, dd, k0, k1, k2, k3, k5, e⟩ := x.ob
 exact ⟨nm, q, bs, hdct, sn, sub, ab, col, dd, k0, k1, k2, k3, k5, kin _ _ e⟩
theorem XTl.tail (x : XTl K bm) (kin : K.In h) : OwnTail h bmVE bm := by
 rcases x with rfl | ⟨D, ND, rfl, d⟩
 · exact .base
 · obtain ⟨nm, q, bs, hdct, sn, sub, ab, col, dd, k0, k1, k2, k3, k5, e⟩ := d.obj kin
   obtain ⟨m, mi, mn⟩ := d.names
   exact .own e (mn h kin) mi .base
theorem XTl.base (x : XTl K bm) : bm.contains (.type "BaseException") = true := by
 rcases x with rfl | ⟨D, ND, rfl, d⟩
 · decide
 · rw [List.contains_cons]; rfl
end

section
variable {P : Program} {w : World} {K : PySem.W.Frag} {mg : Str → Option Value} {base : Heap} {N0 : List Str} {qual : Str} {scope : Scope} {f : Addr} {cd : Value} {A : Around} {outer : List Env} {s0 : Shared} {H0 : Hp} {E : XK}
def tRaise (E : XK) (C : Addr) (t : TA) : TS := fun _ σ H => t σ H fun vs H1 => vs.length ≤ sizeLine ∧ E (.ref C) none H1
theorem ps_raise {X : Cx} (hX : X = cxOf (CXe P w) P w K mg base N0 qual scope f cd A outer s0 H0 E) {C N : Addr} {bm : List Value} {x : Str} {np cpos pos : Pos} {e : Expr} {es : List Expr} {t : TA} (c : XCl K C N bm none) (tl : XTl K bm)
   (hg : Gl X x) (hm : mg x = some (.ref C)) (ha : PA X (e :: es) t) (hdb : (x == ("__debug__" : Str)) = false := by decide) (he : starEach (e :: es) X.env = (false, eval e X.env) :: starEach es X.env := by rfl)
   (hpl : (backTo cpos (starEach es X.env)).any (·.1) = false := by rfl) : PS X (.Raise (some (.Call (.Name x np) (e :: es) [] cpos)) none pos) (tRaise E C t) := by
 intro pins s σ H D I h
 obtain ⟨nm, q, bs, hdct, sn, sub, ab, col, dd, k0, k1, k2, k3, k5, lk⟩ := c.ob
 obtain ⟨m, mi, mn⟩ := c.names
 have hx : X.xe = fun (e : Value) (s' : Shared) => wpAny (model X.prog X.w) X.A (leaving X.env e) (fun _ s'' => CXe X.prog X.w X.outer X.H₀ X.s₀ E e s'') (fun e' s'' => CXe X.prog X.w X.outer X.H₀ X.s₀ E e' s'') s' := by subst hX; rfl
 have hpl2 : (backTo cpos (starEach (e :: es) X.env)).any (·.1) = false := by rw [he]; exact hpl
 have hst : X.stack = X.env :: X.outer := by subst hX; rfl
 have hfm : X.env.frame = some X.env.locals := by subst hX; rfl
 have hex : X.ex = [] := by subst hX; rfl
 have hmg : X.mg x = some (.ref C) := by subst hX; exact hm
 have hcm : X.calm = true := by subst hX; rfl
 have hK : X.K = K := by subst hX; rfl
 refine wpAny_Raise_call_subU (C := C) (nm := nm) (q := q) (N := N) (bs := bs) (bm := bm) (hdct := hdct) (sn := sn) (sub := sub) (ab := ab) (col := col) (dd := dd) (k0 := k0) (k1 := k1) (k2 := k2) (k3 := k3) (k5 := k5) (newId := "ValueError.__new__")
   PySem.F.excBase_ValueError (by decide) PySem.F.excBase_ValueError (mN := m) tl.base (I.ok.hd hcm) hpl2 mi (ld_glob I hg hmg ⟨rfl, ?_⟩ hdb)
 have z := ha cpos pins s σ H _ I h
 rw [he] at z ⊢
 refine Calls.evalArgs_plain (thn z fun us s1 ⟨vs, H1, I1, r, hl, hE⟩ => ?_)
 have kin : K.In s1.heap := by rw [← hK]; exact I1.kIn
 refine ⟨rfl, by show us.length ≤ sizeLine; rw [← r.length]; exact hl, kin _ _ lk, mn _ kin, tl.tail kin, fun h' ea md => ?_⟩
 obtain ⟨ta, q1, _, _⟩ := md.there
 rw [hx]
 exact leaveX (fl := none) hst hfm hex I1 (I1.kept (t' := s1.toks) md.keeps) (fun b o q => ⟨o, md.keeps b o q⟩) ⟨I1.hok.none md.new, md.new, _, _, q1, rfl, rfl, rfl, rfl, rfl⟩ (.inl rfl) hE
end

section
abbrev TEx := St → Hp → VK → XK → Prop
abbrev TSx := Ends → XK → St → Hp → Prop
def XP (X : Cx) (pins : List (Addr × Obj)) (σ : St) (Ex : XK) (e : Value) (s' : Shared) : Prop :=
 ∃ ea C od H' s2 H2, e = .ref ea ∧ Inv X pins σ H2 s2 ∧ Inv X pins σ H' s' ∧ (∀ b o, s2.heap.get? b = some o → ∃ o', s'.heap.get? b = some o') ∧ Exc s2.heap H' s'.heap ea C od (some .none) ∧ Ex C od H'
def PEx (X : Cx) (e : Expr) (t : TEx) : Prop :=
 ∀ (pins : List (Addr × Obj)) (s : Shared) (σ : St) (H : Hp) (Q : VK) (Ex : XK), Inv X pins σ H s → t σ H Q Ex → wpAny (model X.prog X.w) X.A (eval e X.env) (EP X pins σ Q) (XP X pins σ Ex) s
def PSx (X : Cx) (st : Stmt) (t : TSx) : Prop :=
 ∀ (pins : List (Addr × Obj)) (s : Shared) (σ : St) (H : Hp) (D : Ends) (Ex : XK), Inv X pins σ H s → t D Ex σ H → wpAny (model X.prog X.w) X.A (exec st X.env) (SP X pins D) (XP X pins σ Ex) s
def PSsx (X : Cx) (st : List Stmt) (t : TSx) : Prop :=
 ∀ (pins : List (Addr × Obj)) (s : Shared) (σ : St) (H : Hp) (D : Ends) (Ex : XK), Inv X pins σ H s → t D Ex σ H → wpAny (model X.prog X.w) X.A (execs st X.env) (SP X pins D) (XP X pins σ Ex) s
variable {X : Cx} {k : Nat} {f C : Addr} {fd : FuncData} {ps : List Str} {sp : Sp} {dvs : List V} {ds : List Value} {x m : Str} {p pos apos : Pos} {e o : Expr} {es : List Expr} {ta : TE} {t : TA} {te : TEx}
theorem thnN {α : Type} {u : Sem α} {Q Q' : α → Shared → Prop} {M : Model} {A : Around} {E : Value → Shared → Prop} {s : Shared} (h : wpAny M A u Q (fun _ _ => False) s) (hQ : ∀ a s, Q a s → Q' a s) : wpAny M A u Q' E s := wpAny_mono h hQ fun _ _ z => z.elim
theorem run_fnx {pins : List (Addr × Obj)} {σ : St} {H : Hp} {s : Shared} {Q : VK} {Ex : XK} {us : List Value} {vs : List V} (F : FnOk X.prog X.w X.K X.mg X.base (CXe X.prog X.w) k f fd ps sp) (hr : Room k X.A) (hb : Binds X.K fd ps ds) (hd : Vals dvs ds)
   (I : Inv X pins σ H s) (r : Vals vs us) (h : sp (vs ++ dvs) H Q Ex) : wpAny (model X.prog X.w) X.A (call (.ref f) us) (EP X pins σ Q) (XP X pins σ Ex) s := by
 have r2 : Vals (vs ++ dvs) (us ++ ds) := r.append hd
 have hl : (us ++ ds).length = ps.length := by rw [← r2.length]; exact F.len _ _ _ _ h
 refine wpAny_call (codeAny_mono (F.run X.A X.stack s H ⟨us, []⟩ (us ++ ds) (vs ++ dvs) Q Ex hr I.env0 (hb s us I.kIn hl) r2 h) fun r s' hq => ?_)
 cases r with
 | error e =>
   obtain ⟨ea, C, od, H', rfl, os, bare, un, hok, y, hE⟩ := hq
   exact ⟨ea, C, od, H', s, H, rfl, I, I.call' os un hok bare (fun b z => nomatch z), fun b o q => un.there b o q (by simp), y, hE⟩
 | ok fl =>
   cases fl with
   | ret u => exact I.after hq
   | next => exact False.elim hq
   | brk => exact False.elim hq
   | cont => exact False.elim hq
def tCallx (sp : Sp) (dvs : List V) (t : TA) : TEx := fun σ H Q Ex => t σ H fun vs H1 => sp (vs ++ dvs) H1 Q Ex
theorem pex_call (F : FnOk X.prog X.w X.K X.mg X.base (CXe X.prog X.w) k f fd ps sp) (hr : Room k X.A) (hg : Gl X x) (hm : X.mg x = some (.ref f)) (hk : PySem.W.keepIn X.K (.ref f) = true) (hb : Binds X.K fd ps ds) (hd : Vals dvs ds)
   (ha : PA X.nox (e :: es) t) (hdb : (x == ("__debug__" : Str)) = false := by decide) (he : starEach (e :: es) X.env = (false, eval e X.env) :: starEach es X.env := by rfl) (hpl : (backTo pos (starEach es X.env)).any (·.1) = false := by rfl) :
   PEx X (.Call (.Name x p) (e :: es) [] pos) (tCallx sp dvs t) := by
 intro pins s σ H Q Ex I h
 refine wpAny_Call_Name_kw (ld_glob I hg hm ?_ hdb)
 refine PySem.W.callWith_K (h₀ := X.base) I.ok.mod.kin hk (thnN (ha pos pins s σ H _ (I.wish _) h) fun us s1 ⟨vs, H1, I1, r, q⟩ => ⟨I1.unwish.kIn, ?_⟩) he hpl
 exact run_fnx F hr hb hd I1.unwish r q
theorem psx_expr (he : PEx X e te) (hs : swapsWith e none pos.line X.env = pure false := by rfl) : PSx X (.Expr e pos) (fun D Ex σ H => te σ H (fun _ H1 => D.nx σ H1) Ex) := by
 intro pins s σ H D Ex I h
 exact wpAny_Expr_any (thn (he pins s σ H _ _ I h) fun v s1 ⟨x, H1, I1, r1, q1⟩ => ⟨σ, H1, I1, q1⟩) I.quiet hs
theorem pssx_one {st : Stmt} {ts : TSx} (h1 : PSx X st ts) : PSsx X [st] ts := by
 intro pins s σ H D Ex I h
 refine wpAny_execs_cons (thn (h1 pins s σ H D Ex I h) fun f s1 q => ?_)
 cases f with
 | next => exact wpAny_execs_nil q
 | ret v => exact q
 | brk => exact q
 | cont => exact q
theorem psx_if {c : Expr} {a b : List Stmt} {tc : TT} {t u : TSx} (hc : PT X.nox c tc) (ha : PSsx X a t) (hb : PSsx X b u) : PSx X (.If c a b pos) (fun D Ex σ H => tc σ H fun d H1 => if d = true then t D Ex σ H1 else u D Ex σ H1) := by
 intro pins s σ H D Ex I h
 refine wpAny_If (thnN (hc pins s σ H _ (I.wish _) h) fun d s1 ⟨H1, I1, q1⟩ => ?_)
 cases d with
 | true => exact ha pins s1 σ H1 D Ex I1.unwish q1
 | false => exact hb pins s1 σ H1 D Ex I1.unwish q1
end
end L2

set_option Elab.async false
set_option linter.all false
set_option maxRecDepth 100000
set_option maxHeartbeats 4000000
namespace L2
open PySem PySem.Spec PyProof.Rows
def xcO (e : Addr) (C : Value) (od : Option Addr) : HO := .ext fun h => ∃ o vs, h.get? e = some o ∧ o.cls = C ∧ o.dict = od ∧ o.data = .fields vs ∧ vs[2]? = some .none
theorem xc_stable {e : Addr} {C : Value} {od : Option Addr} : ∀ h1 h2 : Heap, (∃ o vs, h1.get? e = some o ∧ o.cls = C ∧ o.dict = od ∧ o.data = .fields vs ∧ vs[2]? = some .none) → (∀ o, h1.get? e = some o → h2.get? e = some o) → ∃ o vs, h2.get? e = some o ∧ o.cls = C ∧ o.dict = od ∧ o.data = .fields vs ∧ vs[2]? = some .none :=
 fun _ _ ⟨o, vs, q, r⟩ k => ⟨o, vs, k o q, r⟩
theorem xc_ok {P : Program} {w : World} {H : Hp} {h : Heap} {e : Addr} {C : Value} {od : Option Addr} (x : ∃ o vs, h.get? e = some o ∧ o.cls = C ∧ o.dict = od ∧ o.data = .fields vs ∧ vs[2]? = some .none) : ObjOk P w H h e (xcO e C od) :=
 ⟨x, (let ⟨o, _, q, _⟩ := x; ⟨o, q⟩), xc_stable⟩

section
variable {X : Cx} {pins : List (Addr × Obj)} {σ σ' : St} {H H' : Hp} {s s1 : Shared}
theorem Inv.track {a : Addr} {o : HO} (I : Inv X pins σ H s) (J : Inv X pins σ' H' s1) (hex : X.ex = []) (hn : H' a = none) (hw : s.heap.get? a = none) (new : ObjOk X.prog X.w (upd H' a o) s1.heap a o) : Inv X pins σ' (upd H' a o) s1 := by
 have ne : ∀ b u, s.heap.get? b = some u → b ≠ a := fun b u e z => by rw [z, hw] at e; cases e
 have ne0 : ∀ b u, X.s₀.heap.get? b = some u → b ≠ a := fun b u e => let ⟨o', e'⟩ := I.base.there b u e (by rw [hex]; simp); ne b o' e'
 refine ⟨J.ok, J.os, J.bare, ⟨J.base.keep, J.base.slot, fun b u e n hx => ?_, J.base.there, fun b xs e => ?_, fun b u v e => ?_, fun b ps e => ?_⟩, J.loc, J.cell, ?_, fun x c e => ?_, fun p hp => ?_, fun b u e => ?_, J.len⟩
 · rw [upd_ne (ne0 b u e)]; exact J.base.free b u e n hx
 · have z := J.base.tups b xs e
   rw [upd_ne (ne_of_none z hn)]; exact z
 · have z := J.base.frzs b u v e
   rw [upd_ne (ne_of_none z hn)]; exact z
 · obtain ⟨more, z⟩ := J.base.tbls b ps e
   exact ⟨more, by rw [upd_ne (ne_of_none z hn)]; exact z⟩
 · obtain ⟨m, ⟨oL, _, _, eL, _⟩, _⟩ := I.loc
   rw [upd_ne (ne _ _ eL)]; exact J.free
 · obtain ⟨v, oc, ec, _⟩ := I.cell x c e
   rw [upd_ne (ne _ _ ec)]; exact J.freeC x c e
 · obtain ⟨e0, _⟩ := I.pin p hp
   obtain ⟨e1, n1, r⟩ := J.pin p hp
   exact ⟨e1, by rw [upd_ne (ne _ _ e0)]; exact n1, r⟩
 · by_cases hb : b = a
   · subst hb; rw [upd_same] at e; cases e; exact new
   · rw [upd_ne hb] at e
     exact (J.hok b u e).stay (fun c v _ q => q) (fun c q => by rw [upd_ne (ne_of_none q hn)]; exact q) fun c xs q => by rw [upd_ne (ne_of_none q hn)]; exact q
theorem Inv.gone {i : Nat} {n : Str} {h' : Heap} {v : Option Value} {tk : Nat} {m : Str → Option Value} (I : Inv X pins σ H s) (hN : X.N.Nodup) (hi : X.N[i]? = some n)
   (hm : s.heap.Ns X.env.locals m) (hn : h'.Ns X.env.locals (fun x => if x = n then v else m x)) (hs : Heap.SameBut X.env.locals s.heap h') : Inv X pins (σ.set i none) H { s with heap := h', toks := tk } := by
 obtain ⟨m0, hn0, hl⟩ := I.loc
 have em : m0 = m := by
   obtain ⟨o1, es1, ep1, q1, d1, _, f1⟩ := hn0
   obtain ⟨o2, es2, ep2, q2, d2, _, f2⟩ := hm
   rw [q1] at q2
   cases q2
   rw [d1] at d2
   cases d2
   funext x
   rw [← f1, ← f2]
 subst em
 have hil : i < σ.length := by rw [I.len]; exact (List.getElem?_eq_some_iff.mp hi).1
 have ab : ∀ b o, X.s₀.heap.get? b = some o → b ≠ X.env.locals := fun b o e => Nat.ne_of_lt (Nat.lt_of_lt_of_le (Heap.lt_size e) I.ok.above)
 have hk : HOk X.prog X.w H h' := fun b ob e => by
   refine (I.hok b ob e).stay (fun c w' hc q => (hs.2 c ?_).trans q) (fun _ q => q) fun _ _ q => q
   rintro rfl
   rcases hc with rfl | hc
   · rw [I.free] at e; cases e
   · rw [I.free] at hc; cases hc
 refine ⟨I.ok, I.os, I.bare, ⟨fun b o e n hb hx => (hs.2 b (ab b o e)).trans (I.base.keep b o e n hb hx), fun b o e n hb hx => ?_, I.base.free, fun b o e hx => ?_, I.base.tups, I.base.frzs, I.base.tbls⟩, ⟨_, hn, fun j y u e1 e2 e3 => ?_⟩, fun y c e => ?_, I.free, I.freeC, fun p hp => ?_, hk, by simpa using I.len⟩
 · obtain ⟨sl, e1⟩ := I.base.slot b o e n hb hx
   exact ⟨sl, (hs.2 b (ab b o e)).trans e1⟩
 · obtain ⟨o', e1⟩ := I.base.there b o e hx
   exact ⟨o', (hs.2 b (ab b o e)).trans e1⟩
 · by_cases hj : j = i
   · subst hj
     rw [List.getElem?_set_self hil] at e2
     cases e2
   · rw [List.getElem?_set_ne (Ne.symm hj)] at e2
     obtain ⟨u', r', q⟩ := hl j y u e1 e2 e3
     refine ⟨u', r', ?_⟩
     have hne : y ≠ n := fun z => hj (nodup_ix hN e1 (z ▸ hi))
     rcases q with ⟨k, e⟩ | ⟨k, c, e, z⟩
     · exact .inl ⟨k, by simp [hne, e]⟩
     · exact .inr ⟨k, c, e, z.sameBut hs (I.cne y c e)⟩
 · obtain ⟨w', z⟩ := I.cell y c e
   exact ⟨w', z.sameBut hs (I.cne y c e)⟩
 · obtain ⟨e, n, ne, nf, d⟩ := I.pin p hp
   exact ⟨(hs.2 p.1 ne).trans e, n, ne, nf, d⟩
end

section
variable {M : Model} {A : Around} {E : Value → Shared → Prop} {K : PySem.W.Frag} {s : Shared} {C D N N' ea : Addr} {bm bm' : List Value} {ini ini' : Option Value} {Q : Bool → Shared → Prop}
theorem exc_matches {oe : Obj} (kin : K.In s.heap) (c : XCl K C N bm ini) (d : XCl K D N' bm' ini') (td : XTl K bm') (he : s.heap.get? ea = some oe) (hc : oe.cls = .ref C) (h : Q ((Value.ref C :: bm).contains (.ref D)) s) :
   wpAny M A (excMatches (.ref ea) (.ref D)) Q E s := by
 obtain ⟨nm, q, bs, hdct, sn, sub, ab, col, dd, k0, k1, k2, k3, k5, lc⟩ := c.obj kin
 obtain ⟨nm', q', bs', hdct', sn', sub', ab', col', dd', k0', k1', k2', k3', k5', ld⟩ := d.obj kin
 have hB : (Value.ref D :: bm').contains (.type "BaseException") = true := by rw [List.contains_cons, td.base]; rfl
 have f := tc_notTuple
 obtain ⟨hp, g, dr, tk, os⟩ := s
 unfold excMatches
 repeat (first | (with_reducible refine wpAny_loadPart_at he ?_; rw [hc]) | with_reducible refine wpAny_loadPart_at ld ?_ | (with_reducible refine wpAny_isSubtype_exc ld ?_; rw [hB]) | with_reducible refine wpAny_isSubtype_exc lc ?_ | wp_step)
 cases hb : (Value.ref C :: bm).contains (.ref D) <;> (rw [hb] at h; wp_walk; exact h)
end
abbrev Cx.han (X : Cx) (ea : Addr) : Cx := { X with A := X.A.mark (some (.ref ea)), calm := false, xe := fun _ _ => False }
section
variable {X : Cx} {pins : List (Addr × Obj)} {σ : St} {H : Hp} {s : Shared} {ea : Addr}
theorem Cx.Ok.han (ok : X.Ok) (ea : Addr) : (X.han ea).Ok :=
 ⟨ok.mod, ok.kind, ok.glob, ok.blt, ok.above, ok.inj, ok.has, ok.cab, (fun z => nomatch (show false = true from z)), ok.frames, ok.stk, ok.exf, ok.bs, ok.bsz, ok.noex, ok.exfs, ok.funs, ok.frf⟩
theorem Inv.han (I : Inv X pins σ H s) (ea : Addr) : Inv (X.han ea) pins σ H s := ⟨I.ok.han ea, I.os, I.bare, I.base, I.loc, I.cell, I.free, I.freeC, I.pin, I.hok, I.len⟩
theorem Inv.unhan (ok : X.Ok) (I : Inv (X.han ea) pins σ H s) : Inv X pins σ H s := ⟨ok, I.os, I.bare, I.base, I.loc, I.cell, I.free, I.freeC, I.pin, I.hok, I.len⟩

abbrev TH := Addr → Value → Option Addr → TS
def PHs (X : Cx) (hs : List ExceptHandler) (t : TH) : Prop :=
 ∀ (pins : List (Addr × Obj)) (s : Shared) (σ : St) (H : Hp) (D : Ends) (ea : Addr) (C : Value) (od : Option Addr) (s2 : Shared) (H2 : Hp), Inv X pins σ H2 s2 → Inv X pins σ H s → (∀ b o, s2.heap.get? b = some o → ∃ o', s.heap.get? b = some o') →
   Exc s2.heap H s.heap ea C od (some .none) → t ea C od D σ H → wpAny (model X.prog X.w) X.A (handleBy (.ref ea) X.env hs) (SP X pins D) X.xe s
theorem ph_nil : PHs X [] (fun _ _ _ _ _ _ => False) := fun _ _ _ _ _ _ _ _ _ _ _ _ _ _ h => h.elim

def tHand (K : PySem.W.Frag) (Dc : Addr) (i : Nat) (tb : Addr → TS) (tr : TH) : TH := fun ea C od D σ H => ∃ Cc N bm ini, C = .ref Cc ∧ XCl K Cc N bm ini ∧
 if (Value.ref Cc :: bm).contains (.ref Dc) = true then tb ea { nx := fun σ' H' => D.nx (σ'.set i none) H', rt := D.rt, bk := fun σ' H' => D.bk (σ'.set i none) H', ct := fun σ' H' => D.ct (σ'.set i none) H' } (σ.set i (some (.ref ea))) (upd H ea (xcO ea C od)) else tr ea C od D σ H
theorem ph_as {i : Nat} {x n : Str} {np hpos : Pos} {b₀ : Stmt} {suite : List Stmt} {rest : List ExceptHandler} {Dc ND : Addr} {bmD : List Value} {iniD : Option Value} {tb : Addr → TS} {tr : TH} (hex : X.ex = []) (hg : Gl X x) (hm : X.mg x = some (.ref Dc))
   (d : XCl X.K Dc ND bmD iniD) (td : XTl X.K bmD) (hN : X.N.Nodup) (hi : X.N[i]? = some n) (hl : X.env.scope.names.lookup n = some .local) (hb : ∀ ea, PSs (X.han ea) (b₀ :: suite) (tb ea)) (hr : PHs X rest tr)
   (hdb : (x == ("__debug__" : Str)) = false := by decide) : PHs X (.ExceptHandler (some (.Name x np)) (some n) (b₀ :: suite) hpos :: rest) (tHand X.K Dc i tb tr) := by
 rintro pins s σ H D ea C od s2 H2 I2 J ht y ⟨Cc, N, bm, ini, rfl, c, q⟩
 obtain ⟨fr, nw, oe, vs, he, hc, hdi, hd, fa⟩ := id y
 refine wpAny_handleBy_cons (codeAny_handlers_test (ld_glob (X := X.han ea) (J.han ea) hg hm ?_ hdb)) (by intro z; cases z)
 refine exc_matches J.kIn c d td he hc ?_
 cases hb2 : (Value.ref Cc :: bm).contains (.ref Dc) with
 | false =>
   rw [hb2, if_neg Bool.false_ne_true] at q
   exact hr pins s σ H D ea _ od s2 H2 I2 J ht y q
 | true =>
   rw [hb2, if_pos rfl] at q
   refine codeAny_handlers_suite_as ?_
   refine land_exc y fun h1 ch hch mv y1 => ?_
   have J1 := I2.mv J (mv.mono (fun b z => nomatch z) fun b z => z) hch
   obtain ⟨fr1, nw1, oe1, vs1, he1, hc1, hdi1, hd1, fa1⟩ := id y1
   have J2 := I2.track J1 (o := xcO ea (.ref Cc) od) hex fr1 nw1 (xc_ok ⟨oe1, vs1, he1, hc1, hdi1, hd1, fa1.cx⟩)
   refine store_ok J2 hN hi (.inl hl) (show RelV (.ref ea) (.ref ea) from rfl) (fun s3 J3 => ?_) (.inr hl)
   refine wpAny_mono (hb ea pins s3 _ _ _ (J3.han ea) q) (fun f s4 r => ?_) fun _ _ z => z.elim
   have hp : (X.env.scope.kind == .class || (X.env.scope.kind == .module && X.env.locals != X.env.globals)) = false := by rw [J.ok.kind]; rfl
   have go : ∀ {σ' : St} {H' : Hp} {Q : Unit → Shared → Prop}, Inv (X.han ea) pins σ' H' s4 → (∀ s5, Inv X pins (σ'.set i none) H' s5 → Q () s5) → wpAny (model X.prog X.w) X.A (do bindName X.env n .none; unbindBehindTheSuite X.env n hpos) Q X.xe s4 := fun {σ' H' Q} I4 k => by
     have I5 := I4.unhan J.ok
     obtain ⟨m, hn, _⟩ := id I5.loc
     exact wpAny_nameGoes_keeps hl hn hp fun h' v hn' hs => k _ (I5.gone hN hi hn hn' hs)
   cases f with
   | next => obtain ⟨σ', H', I4, q4⟩ := r; exact go I4 fun s5 I5 => ⟨_, H', I5, q4⟩
   | brk => obtain ⟨σ', H', I4, q4⟩ := r; exact go I4 fun s5 I5 => ⟨_, H', I5, q4⟩
   | cont => obtain ⟨σ', H', I4, q4⟩ := r; exact go I4 fun s5 I5 => ⟨_, H', I5, q4⟩
   | ret u => obtain ⟨v, σ', H', I4, rv, q4⟩ := r; exact go I4 fun s5 I5 => ⟨v, _, H', I5, rv, q4⟩
def tTryX (tb : TSx) (th : TH) (to : TS) : TS := fun D σ H => tb { D with nx := fun σ1 H1 => to D σ1 H1 } (fun C od H' => ∀ ea, H' ea = none → th ea C od D σ H') σ H
theorem ps_tryX {body orelse : List Stmt} {h₀ : ExceptHandler} {hs : List ExceptHandler} {pos : Pos} {tb : TSx} {th : TH} {to : TS} (hst : X.stack = X.env :: X.outer) (hfm : X.env.frame = some X.env.locals) (hb : PSsx X body tb) (hh : PHs X (h₀ :: hs) th) (ho : PSs X orelse to) :
   PS X (.Try body (h₀ :: hs) orelse [] pos) (tTryX tb th to) := by
 intro pins s σ H D I h
 refine wpAny_Try_except (wpAny_mono (hb pins s σ H _ _ I h) (fun f s1 q => ?_) fun e s1 q => ?_)
 · cases f with
   | next => obtain ⟨σ1, H1, I1, q1⟩ := q; exact ho pins s1 σ1 H1 D I1 q1
   | ret u => exact q
   | brk => exact q
   | cont => exact q
 · obtain ⟨ea, C, od, H', s2, H2, rfl, I2, J, ht, y, hE⟩ := q
   have hl := J.stack
   rw [hst] at hl
   refine note_exc (J.ok.frames.trans (by rw [hst])) hl hfm y (.inr (.inl rfl)) ht (fun b hb => J.hok.fresh hb) fun h1 ch hc m y1 => ?_
   have J1 := I2.mv J (h' := h1) (by rw [hst]; exact m) hc
   have ht1 : ∀ b o, s2.heap.get? b = some o → ∃ o', h1.get? b = some o' := fun b o q => let ⟨o', q'⟩ := ht b o q; m.there b o' q'
   refine land_exc y1 fun h2 ch2 hc2 m2 y2 => ?_
   have J2 := I2.mv J1 (h' := h2) (m2.mono (fun b z => nomatch z) fun b z => z) hc2
   exact hh pins _ σ H' D ea C od s2 H2 I2 J2 (fun b o q => let ⟨o', q'⟩ := ht1 b o q; m2.there b o' q') y2 (hE ea y2.fr)
end
end L2

set_option Elab.async false
set_option linter.all false
set_option maxRecDepth 100000
set_option maxHeartbeats 1000000
namespace L2
open PySem PySem.Spec PyProof.Rows PySem.Builtin PySem.Builtin.ObjectAttr
structure XAt (K : PySem.W.Frag) (C : Addr) (f : Str) : Prop where
 no : PySem.W.findIn K (.ref C) f = some none
 sa : PySem.W.findIn K (.ref C) "__setattr__" = some (some (.builtin "object.__setattr__"))
 ga : PySem.W.findIn K (.ref C) "__getattribute__" = some (some (.builtin "BaseException.__getattribute__"))
 gx : PySem.W.findIn K (.ref C) "__getattr__" = some none
 hd : PySem.W.hasDictIn K C = true
section
variable {P : Program} {w : World} {A : Around} {E : Value → Shared → Prop} {s : Shared} {K : PySem.W.Frag} {C N x : Addr} {bm : List Value} {ini : Option Value} {f : Str} {v : Value} {ox : Obj} {vs : Array Value}
theorem XCl.cls (c : XCl K C N bm ini) (h : PySem.W.hasDictIn K C = true) : ∃ cd, PySem.W.clsIn K C = some cd ∧ cd.mro = .ref C :: bm ∧ cd.hasDict = true := by
 obtain ⟨nm, q, bs, hdct, sn, sub, ab, col, dd, k0, k1, k2, k3, k5, lk⟩ := c.ob
 obtain ⟨cd, hc, hd⟩ := PySem.W.any_some h
 refine ⟨cd, hc, ?_, hd⟩
 unfold PySem.W.clsIn at hc
 rw [lk] at hc
 cases hc
 rfl
end
end L2

set_option Elab.async false
set_option linter.all false
set_option maxRecDepth 100000
set_option maxHeartbeats 1000000
namespace L2
open PySem PySem.Spec PyProof.Rows PySem.Builtin PySem.Builtin.ObjectAttr

section
variable {P : Program} {w : World} {A : Around} {E : Value → Shared → Prop} {K : PySem.W.Frag} {C N fI : Addr} {bm : List Value} {us : List Value}
end
end L2

set_option Elab.async false
set_option linter.all false
set_option maxRecDepth 100000
set_option maxHeartbeats 1000000
namespace L2
open PySem PySem.Spec PyProof.Rows PySem.Builtin PySem.Builtin.ObjectAttr
def xmO (e : Addr) (C : Value) (od : Option Addr) : HO := .ext fun h => ∃ o vs, h.get? e = some o ∧ o.cls = C ∧ o.dict = od ∧ o.data = .fields vs ∧ vs[1]? = some .none ∧ vs[2]? = some .none
def xdO (d : Addr) (fs : List (Str × V)) : HO := .ext fun h => ∃ mA, h.Ns1 d mA ∧ (∀ g, RelO (fs.lookup g) (mA g)) ∧ PySem.Within mA (fs.map (·.1))
section
variable {X : Cx} {pins : List (Addr × Obj)} {σ : St} {H : Hp} {s : Shared} {a : Addr} {φ : Heap → Prop}
end
section
variable {X : Cx} {e : Expr} {te : TE} {pos : Pos}
end

section
variable {X : Cx} {C N D fI : Addr} {bm : List Value} {ini : Option Value} {x f : Str} {np ap pos cpos pos' : Pos} {e o value a1 a2 : Expr} {es : List Expr} {t : TA} {ta tv te : TE}
structure XIn (K : PySem.W.Frag) (D : Addr) : Prop where
 sp : PySem.W.specialIn K (.ref D) "__getattribute__" = some (some (.builtin "type.__getattribute__"))
 rd : PySem.W.readsIn K D (.type "type") = true
 fc : PySem.W.findCls K (.ref D) (.type "type") "__init__" = some (.val (.builtin "ValueError.__init__"))
end

section
variable {P : Program} {w : World} {K : PySem.W.Frag} {mg : Str → Option Value} {base : Heap} {N0 : List Str} {qual : Str} {scope : Scope} {f : Addr} {cd : Value} {A : Around} {outer : List Env} {s0 : Shared} {H0 : Hp} {E : XK}
end
end L2

set_option Elab.async false
set_option linter.all false
set_option maxRecDepth 100000
set_option maxHeartbeats 1000000
namespace L2
open PySem PySem.Spec PyProof.Rows
structure RoomM (k : Nat) (A : Around) : Prop where
 dp : A.depth + 3 * k + 5 < recursionLimit
 un : A.units + 16 * k + 200 < cLine
theorem Room.m {k : Nat} {A : Around} (r : Room k A) : RoomM k A := ⟨r.dp, r.un⟩
theorem RoomM.mark {k : Nat} {A : Around} (r : RoomM k A) (h : Option Value) : RoomM k (A.mark h) := ⟨r.dp, r.un⟩
theorem RoomM.mono {j k : Nat} {A : Around} (r : RoomM k A) (h : j ≤ k) : RoomM j A := ⟨by have := r.dp; omega, by have := r.un; omega⟩
theorem RoomM.deeper {k : Nat} {A : Around} (r : RoomM (k + 1) A) (env : Env) : RoomM k (A.deeper env) :=
 ⟨by have := r.dp; show A.depth + 1 + 3 * k + 5 < _; omega, by have := r.un; show A.units + 3 + 16 * k + 200 < _; omega⟩
theorem RoomM.units0 {k : Nat} {A : Around} (r : RoomM k A) : A.units < cLine := by have := r.un; omega
theorem RoomM.hu {k : Nat} {A : Around} (r : RoomM k A) : A.units + 1 < cLine := by have := r.un; omega
structure FnOkM (P : Program) (w : World) (K : PySem.W.Frag) (mg : Str → Option Value) (base : Heap) (k : Nat) (f : Addr) (fd : FuncData) (ps : List Str) (sp : Sp) : Prop where
 len : ∀ vs H Q E, sp vs H Q E → vs.length = ps.length
 run : ∀ (A : Around) (outer : List Env) (s : Shared) (H : Hp) (args : Args) (us : List Value) (vs : List V) (Q : VK) (E : XK), RoomM k A → Env0 P w K mg base A outer s H → BindsTo s fd args (ps.zip us) → Vals vs us → sp vs H Q E →
   codeAny (model P w) A (.call (.ref f) args) (CR CX0 outer P w H s Q E) s
theorem FnOkM.fn {P : Program} {w : World} {K : PySem.W.Frag} {mg : Str → Option Value} {base : Heap} {k : Nat} {f : Addr} {fd : FuncData} {ps : List Str} {sp : Sp} (F : FnOkM P w K mg base k f fd ps sp) : FnOk P w K mg base CX0 k f fd ps sp :=
 ⟨F.len, fun A outer s H args us vs Q E hr => F.run A outer s H args us vs Q E hr.m⟩
abbrev Cx.mild (X : Cx) : Cx := { X with calm := false, xe := fun _ _ => False }
section
variable {P : Program} {w : World} {K : PySem.W.Frag} {mg : Str → Option Value} {base : Heap}
theorem Fun.okM {x qual : Str} {st : Stmt} {f : Addr} {fd : FuncData} {N ps : List Str} {k : Nat} {sp : Sp} (F : Fun K x qual st f fd) (S : FnScope N ps (defScope st)) (len : ∀ vs H Q E, sp vs H Q E → vs.length = ps.length)
   (hbody : ∀ (cdv : Value) (A : Around) (outer : List Env) (s : Shared) (H : Hp) (vs : List V) (Q : VK) (E : XK), RoomM k (A.deeper (envOfC qual (defScope st) s.heap.objs.size f cdv)) → sp vs H Q E →
     ∃ t, PSs (cxOf CX0 P w K mg base N qual (defScope st) f cdv A outer s H E).mild (defBody st) t ∧ t { nx := fun _ H' => Q .non H', rt := Q } (start N vs) H) : FnOkM P w K mg base (k + 1) f fd ps sp := by
 obtain ⟨oc, od, kV, doc, pm, an, cdv, ct, osl, rfl, lk, hcd⟩ := F.ex
 refine ⟨len, fun A outer s H args us vs Q E hr e0 hb r hsp => ?_⟩
 have hl := len _ _ _ _ hsp
 have KX : K.In s.heap := e0.mod.kin.keeps fun b o e => (e0.bs b o e).1
 have lim : s.heap.NoLimit := e0.mod.nolimit.keeps fun b o e => (e0.bs b o e).1
 have hkind : ∀ y ∈ ps.zip us, (defScope st).names.lookup y.1 = some .local ∨ ((defScope st).names.lookup y.1 = some .cell ∧ ((cellsFrom (s.heap.objs.size + 1) (defScope st).names []).lookup y.1).isSome = true) := fun ⟨n, v⟩ hy => by
   rcases S.par n (List.of_mem_zip hy).1 with q | q
   · exact .inl q
   · exact .inr ⟨q, PySem.W.cellsFrom_some _ _ _ (.inl q)⟩
 refine codeAny_call_function (show A.depth < recursionLimit by have := hr.dp; omega) (KX _ _ lk) rfl S.co S.gen rfl (PySem.W.codeRec_of KX hcd) (hb _ _ _ _ ?_)
 refine wpAny_newFunctionEnv_cells S.kind hkind fun env he s1 x => ?_
 subst he
 refine ⟨lim.keeps x.toInCall.keep, codeAny_func ?_⟩
 obtain ⟨t, ht, hq⟩ := hbody cdv A outer s H vs Q E (hr.deeper _) hsp
 have e1 : Env0 P w K mg base ({ A with handled := none } : Around) outer s H := ⟨e0.frames, e0.mod, e0.bs, e0.bsz, e0.funs, e0.frf, e0.hok, e0.bare⟩
 have I1 : Inv (cxOf CX0 P w K mg base N qual (defScope st) f cdv ({ A with handled := none } : Around) outer s H E) [] (start N vs) H s1 := inv_start S rfl e1 hl r x
 have I : Inv (cxOf CX0 P w K mg base N qual (defScope st) f cdv A outer s H E).mild [] (start N vs) H s1 :=
   ⟨⟨I1.ok.mod, I1.ok.kind, I1.ok.glob, I1.ok.blt, I1.ok.above, I1.ok.inj, I1.ok.has, I1.ok.cab, (fun z => nomatch (show false = true from z)), Around.frames_deeper e0.frames, I1.ok.stk, I1.ok.exf, I1.ok.bs, I1.ok.bsz, I1.ok.noex, I1.ok.exfs, I1.ok.funs, I1.ok.frf⟩,
     I1.os, I1.bare, I1.base, I1.loc, I1.cell, I1.free, I1.freeC, I1.pin, I1.hok, I1.len⟩
 refine wpAny_mono (ht [] s1 (start N vs) H _ I hq) (fun fl s' hs => ?_) fun e s' hs => hs.elim
 have fin : ∀ {σ' : St} {H' : Hp} {v : V} {u : Value}, Inv (cxOf CX0 P w K mg base N qual (defScope st) f cdv A outer s H E).mild [] σ' H' s' → RelV v u → Q v H' → CE outer P w H s Q u s' :=
   fun {σ' H' v u} J rv q => ⟨v, H', J.os, J.bare, J.base, J.hok, rv, q⟩
 cases fl with
 | ret u =>
   obtain ⟨v, σ', H', J, rv, q⟩ := hs
   exact fin J rv q
 | next =>
   obtain ⟨σ', H', J, q⟩ := hs
   exact fin (v := V.non) (u := Value.none) J rfl q
 | brk =>
   obtain ⟨_, _, _, q⟩ := hs
   exact False.elim q
 | cont =>
   obtain ⟨_, _, _, q⟩ := hs
   exact False.elim q
theorem FunD.okE {x qual : Str} {st : Stmt} {f : Addr} {fd : FuncData} {dV : Value} {N ps : List Str} {k : Nat} {sp : Sp} (F : FunD K x qual st f fd dV) (S : FnScope N ps (defScope st)) (len : ∀ vs H Q E, sp vs H Q E → vs.length = ps.length)
   (hbody : ∀ (cdv : Value) (A : Around) (outer : List Env) (s : Shared) (H : Hp) (vs : List V) (Q : VK) (E : XK), Room k (A.deeper (envOfC qual (defScope st) s.heap.objs.size f cdv)) → sp vs H Q E →
     ∃ t, PSs (cxOf (CXe P w) P w K mg base N qual (defScope st) f cdv A outer s H E) (defBody st) t ∧ t { nx := fun _ H' => Q .non H', rt := Q } (start N vs) H) : FnOk P w K mg base (CXe P w) (k + 1) f fd ps sp := by
 obtain ⟨oc, od, kV, doc, pm, an, cdv, ct, osl, rfl, lk, hcd⟩ := F.ex
 exact fn_of lk hcd S len fun A outer s H vs Q E hr hsp => hbody cdv A outer s H vs Q E hr hsp
end
section
variable {X : Cx} {k : Nat} {f : Addr} {fd : FuncData} {ps : List Str} {sp : Sp} {x : Str} {p pos : Pos} {e : Expr} {es : List Expr} {t : TA}
theorem pe_callM (F : FnOkM X.prog X.w X.K X.mg X.base k f fd ps sp) (hr : RoomM k X.A) (hg : Gl X x) (hm : X.mg x = some (.ref f)) (hk : PySem.W.keepIn X.K (.ref f) = true) (hb : Binds X.K fd ps [])
   (ha : PA X (e :: es) t) (hdb : (x == ("__debug__" : Str)) = false := by decide) (he : starEach (e :: es) X.env = (false, eval e X.env) :: starEach es X.env := by rfl) (hpl : (backTo pos (starEach es X.env)).any (·.1) = false := by rfl) :
   PE X (.Call (.Name x p) (e :: es) [] pos) (tCall sp [] E0 t) := by
 intro pins s σ H Q I h
 refine wpAny_Call_Name_kw (ld_glob I hg hm ?_ hdb)
 refine PySem.W.callWith_K (h₀ := X.base) I.ok.mod.kin hk (thn (ha pos pins s σ H _ I h) fun us s1 ⟨vs, H1, I1, r, q⟩ => ⟨I1.kIn, ?_⟩) he hpl
 have q : sp (vs ++ []) H1 Q E0 := q
 rw [List.append_nil] at q
 have hl : us.length = ps.length := by rw [← r.length]; exact F.len _ _ _ _ q
 have hb' := hb s1 us I1.kIn (by rw [List.append_nil]; exact hl)
 rw [List.append_nil] at hb'
 refine wpAny_call (codeAny_mono (F.run X.A X.stack s1 H1 ⟨us, []⟩ us vs Q E0 hr I1.env0 hb' r q) fun rr s' hq => ?_)
 cases rr with
 | error e => exact hq.elim
 | ok fl =>
   cases fl with
   | ret u => exact I1.after hq
   | next => exact False.elim hq
   | brk => exact False.elim hq
   | cont => exact False.elim hq
end
end L2

set_option Elab.async false
set_option linter.all false
set_option maxRecDepth 100000
set_option maxHeartbeats 4000000
namespace L2
open PySem PySem.Spec PyProof.Rows


section
variable {κ : Type} [DecidableEq κ]
def valV (kvs : List (κ × V)) (k : κ) : Option V := (kvs.find? fun kv => decide (kv.1 = k)).map (·.2)

def putK (kvs : List (κ × V)) (k : κ) (v : V) : List (κ × V) :=
 if (kvs.any fun kv => decide (kv.1 = k)) = true then kvs.map (fun kv => if kv.1 = k then (kv.1, v) else kv) else kvs ++ [(k, v)]
def dropK (kvs : List (κ × V)) (k : κ) : List (κ × V) := kvs.filter fun kv => decide (kv.1 ≠ k)

theorem valV_pos {p : κ × V} {r : List (κ × V)} {k : κ} (e : p.1 = k) : valV (p :: r) k = some p.2 := by simp [valV, List.find?_cons, e]
theorem valV_neg {p : κ × V} {r : List (κ × V)} {k : κ} (e : ¬ p.1 = k) : valV (p :: r) k = valV r k := by simp [valV, List.find?_cons, e]
theorem length_putK (kvs : List (κ × V)) (k : κ) (v : V) : (putK kvs k v).length ≤ kvs.length + 1 := by
 unfold putK
 split
 · rw [List.length_map]; omega
 · rw [List.length_append, List.length_cons, List.length_nil]; omega
theorem RelO.getD {o : Option V} {u : Option Value} {d : V} {d' : Value} (r : RelO o u) (rd : RelV d d') : RelV (o.getD d) (u.getD d') := by
 cases o with
 | none => cases u with
   | none => exact rd
   | some _ => exact (show False from r).elim
 | some _ => cases u with
   | none => exact (show False from r).elim
   | some _ => exact r


theorem KV.val {kvs : List (κ × V)} {vs : List (κ × Value)} (r : KV kvs vs) (k : κ) : RelO (valV kvs k) (valueAt vs k) := by
 unfold KV at r
 induction r with
 | nil => exact True.intro
 | @cons p q ps qs h t ih =>
   obtain ⟨h1, h2⟩ := h
   by_cases e : p.1 = k
   · have e' : q.1 = k := h1.symm.trans e
     have b : valueAt (q :: qs) k = some q.2 := by simp [valueAt, List.find?_cons, e']
     rw [valV_pos e, b]; exact h2
   · have e' : ¬ q.1 = k := fun z => e (h1.trans z)
     have b : valueAt (q :: qs) k = valueAt qs k := by simp [valueAt, List.find?_cons, e']
     rw [valV_neg e, b]; exact ih
theorem KV.any {kvs : List (κ × V)} {vs : List (κ × Value)} (r : KV kvs vs) (k : κ) : (kvs.any fun kv => decide (kv.1 = k)) = vs.any fun kv => decide (kv.1 = k) := by
 unfold KV at r
 induction r with
 | nil => rfl
 | cons h t ih => rw [List.any_cons, List.any_cons, ih, h.1]
theorem KV.repl {kvs : List (κ × V)} {vs : List (κ × Value)} (r : KV kvs vs) (k : κ) {y : V} {u : Value} (ry : RelV y u) :
   KV (kvs.map fun kv => if kv.1 = k then (kv.1, y) else kv) (vs.map fun kv => if kv.1 = k then (kv.1, u) else kv) := by
 unfold KV at r ⊢
 induction r with
 | nil => exact .nil
 | @cons p q ps qs h t ih =>
   rw [List.map_cons, List.map_cons]
   refine .cons ?_ ih
   obtain ⟨h1, h2⟩ := h
   by_cases e : p.1 = k
   · rw [if_pos e, if_pos (h1.symm.trans e)]; exact ⟨h1, ry⟩
   · rw [if_neg e, if_neg (fun z => e (h1.trans z))]; exact ⟨h1, h2⟩
theorem KV.put {kvs : List (κ × V)} {vs : List (κ × Value)} (r : KV kvs vs) (k : κ) {y : V} {u : Value} (ry : RelV y u) : KV (putK kvs k y) (stored vs k u) := by
 unfold putK stored
 rw [r.any k]
 by_cases e : (vs.any fun kv => decide (kv.1 = k)) = true
 · rw [if_pos e, if_pos e]; exact r.repl k ry
 · rw [if_neg e, if_neg e]; exact Paired.snoc r ⟨rfl, ry⟩
theorem KV.drop {kvs : List (κ × V)} {vs : List (κ × Value)} (r : KV kvs vs) (k : κ) : KV (dropK kvs k) (without vs k) := by
 unfold KV at r ⊢
 unfold dropK without
 induction r with
 | nil => exact .nil
 | @cons p q ps qs h t ih =>
   obtain ⟨h1, h2⟩ := h
   rw [List.filter_cons, List.filter_cons]
   by_cases e : p.1 = k
   · have a : ¬ decide (p.1 ≠ k) = true := by simp [e]
     have b : ¬ decide (q.1 ≠ k) = true := by simp [h1.symm.trans e]
     rw [if_neg a, if_neg b]; exact ih
   · have e' : ¬ q.1 = k := fun z => e (h1.trans z)
     have a : decide (p.1 ≠ k) = true := by simp [e]
     have b : decide (q.1 ≠ k) = true := by simp [e']
     rw [if_pos a, if_pos b]; exact .cons ⟨h1, h2⟩ ih
theorem KV.keys {kvs : List (κ × V)} {vs : List (κ × Value)} (r : KV kvs vs) : kvs.map (·.1) = vs.map (·.1) := by
 unfold KV at r
 induction r with
 | nil => rfl
 | cons h t ih => rw [List.map_cons, List.map_cons, ih, h.1]
theorem KV.length {kvs : List (κ × V)} {vs : List (κ × Value)} (r : KV kvs vs) : kvs.length = vs.length := Paired.length r
end



theorem kV_is {P : Program} {w : World} {k : Key} {u : Value} (r : RelV (kV k) u) : (mixKind P w).is k u = true := by
 cases k with
 | inl i => obtain ⟨t, e⟩ := (show ∃ t, u = Value.int i t from r); subst e; exact mixKind_int P w i t
 | inr x => obtain ⟨t, e⟩ := (show ∃ t, u = Value.str x t from r); subst e; exact mixKind_str P w x t
section
variable {P : Program} {w : World} {H : Hp} {h : Heap} {a : Addr}
theorem rd_of {u : HO} (ok : HOk P w H h) (e : Rd H a u) : ObjOk P w H h a u := e.ok ok
theorem dk_rd {kvs : List (Key × V)} (ok : HOk P w H h) (e : Rd H a (.dK kvs)) : kvs.length ≤ sizeLine ∧ (a == sysModules) = false ∧ ∃ vs, KV kvs vs ∧ h.DictOf (mixKind P w) a vs :=
 show ObjOk P w H h a (.dK kvs) from rd_of ok e
theorem dk_of {kvs : List (Key × V)} (ok : HOk P w H h) (e : H a = some (.dK kvs)) : kvs.length ≤ sizeLine ∧ (a == sysModules) = false ∧ ∃ vs, KV kvs vs ∧ h.DictOf (mixKind P w) a vs := dk_rd ok (.inl e)

end


section
variable {X : Cx} {pins : List (Addr × Obj)} {σ : St} {H : Hp} {s : Shared} {a : Addr} {y v : V} {u r : Value} {o : Option V} {A : Around} {E : Value → Shared → Prop}

theorem Inv.big (I : Inv X pins σ H s) : sysModules < s.heap.objs.size := by
 have h : mainGlobals < s.heap.objs.size := (I.mod.glob.keeps I.bk).lt
 exact Nat.lt_trans (by decide) h


theorem d_write {h' : Heap} {t' : Nat} {ob : HO} (I : Inv X pins σ H s) (mu : Mut (H a)) (hs : Heap.SameBut a s.heap h') (he : ∃ q, h'.get? a = some q) (new : ObjOk X.prog X.w (upd H a ob) h' a ob) :
   Inv X pins σ (upd H a ob) { s with heap := h', toks := t' } :=
 I.write (x := a) (e := a) mu (.inl rfl) (fun b q hb z => (hs.2 b hb).trans z) he new
theorem dk_new {P : Program} {w : World} {H' : Hp} {h' : Heap} {kvs : List (Key × V)} {vs : List (Key × Value)} (z : kvs.length ≤ sizeLine) (hd : (a == sysModules) = false) (rel : KV kvs vs) (dd : h'.DictOf (mixKind P w) a vs) :
 ObjOk P w H' h' a (.dK kvs) := ⟨z, hd, vs, rel, dd⟩

end

section
variable {X : Cx} {pins : List (Addr × Obj)} {σ : St} {H : Hp} {s : Shared} {a : Addr} {kvs : List (Key × V)} {k : Key} {u : Value} {A : Around} {E : Value → Shared → Prop}

end




section
variable {X : Cx} {o i e value : Expr} {pos pos' tpos : Pos} {td ty tv : TE}
end



theorem dk_empty {P : Program} {w : World} {H : Hp} (h : Heap) (hb : sysModules < h.objs.size) : ObjOk P w H (h.push { cls := .type "dict", data := .dict #[] }) h.objs.size (.dK []) :=
 ⟨Nat.zero_le _, beq_eq_false_iff_ne.mpr (Ne.symm (Nat.ne_of_lt hb)), [], .nil, Heap.DictOf.new h⟩
section
variable {X : Cx} {pos : Pos}
end


def tPairs : List (TE × TE) → St → Hp → (List (V × V) → Hp → Prop) → Prop
 | [], _, H, Q => Q [] H
 | (tk, tv) :: r, σ, H, Q => tk σ H fun x H1 => tv σ H1 fun y H2 => tPairs r σ H2 fun ps H3 => Q ((x, y) :: ps) H3
abbrev VV : List (V × V) → List (Value × Value) → Prop := Paired fun p q => RelV p.1 q.1 ∧ RelV p.2 q.2
def PPs (X : Cx) (pos : Pos) (keys : List (Option Expr)) (values : List Expr) (trs : List (TE × TE)) : Prop :=
 ∀ (pins : List (Addr × Obj)) (s : Shared) (σ : St) (H : Hp) (Q : List (V × V) → Hp → Prop), Inv X pins σ H s → tPairs trs σ H Q →
   wpAny (model X.prog X.w) X.A (evalPairs (pairTrees keys values X.env pos)) (fun vs s' => ∃ ps H', Inv X pins σ H' s' ∧ VV ps vs ∧ Q ps H') X.xe s
theorem pps_nil {X : Cx} {pos : Pos} : PPs X pos [] [] [] := fun pins s σ H Q I h => pairTrees_nil_walk ⟨[], H, I, .nil, h⟩
theorem pps_cons {X : Cx} {pos : Pos} {k v : Expr} {ks : List (Option Expr)} {vs : List Expr} {tk tv : TE} {trs : List (TE × TE)} (hk : PE X k tk) (hv : PE X v tv) (hr : PPs X pos ks vs trs) :
   PPs X pos (some k :: ks) (v :: vs) ((tk, tv) :: trs) := fun pins s σ H Q I h =>
 pairTrees_cons_walk (thn (hk pins s σ H _ I h) fun u s1 ⟨x, H1, I1, rx, q1⟩ => thn (hv pins s1 σ H1 _ I1 q1) fun w2 s2 ⟨y, H2, I2, ry, q2⟩ =>
   thn (hr pins s2 σ H2 _ I2 q2) fun ws s3 ⟨ps, H3, I3, rel, q3⟩ => ⟨(x, y) :: ps, H3, I3, .cons ⟨rx, ry⟩ rel, q3⟩)

def mergeK (kvs more : List (Key × V)) : List (Key × V) := more.foldl (fun acc kv => putK acc kv.1 kv.2) kvs
theorem KV.merge : ∀ {more : List (Key × V)} {rs : List (Key × Value)} {kvs : List (Key × V)} {vs : List (Key × Value)}, KV more rs → KV kvs vs → KV (mergeK kvs more) (merged vs rs) := by
 intro more rs kvs vs r
 unfold KV at r
 induction r generalizing kvs vs with
 | nil => intro q; exact q
 | @cons p q ps qs h t ih =>
   intro r0
   have e : KV (putK kvs p.1 p.2) (stored vs q.1 q.2) := by
     have := r0.put p.1 h.2
     rw [← h.1]; exact this
   exact ih e
theorem length_mergeK : ∀ (more kvs : List (Key × V)), (mergeK kvs more).length ≤ kvs.length + more.length
 | [], kvs => by show kvs.length ≤ kvs.length + 0; omega
 | p :: r, kvs => by
   have h1 := length_mergeK r (putK kvs p.1 p.2)
   have h2 := length_putK kvs p.1 p.2
   show (mergeK (putK kvs p.1 p.2) r).length ≤ _
   rw [List.length_cons]; omega
theorem carries_of {P : Program} {w : World} : ∀ {kvs : List (Key × V)} {ws : List (Value × Value)}, VV (kvs.map fun kv => (kV kv.1, kv.2)) ws → ∃ rs, Carries (mixKind P w) ws rs ∧ KV kvs rs
 | [], _, r => by rw [List.map_nil] at r; cases r; exact ⟨[], True.intro, .nil⟩
 | p :: kvs, _, r => by
   rw [List.map_cons] at r
   cases r with
   | @cons a b as bs h t =>
     obtain ⟨rs, c, q⟩ := carries_of (P := P) (w := w) t
     obtain ⟨b1, b2⟩ := b
     exact ⟨(p.1, b2) :: rs, ⟨kV_is h.1, rfl, c⟩, .cons ⟨rfl, h.2⟩ q⟩

def tDisp (trs : List (TE × TE)) : TE := fun σ H Q => ∀ p, H p = none → tPairs trs σ (upd H p (.dK [])) fun ps H2 => H2 p = some (.dK []) ∧ ∃ kvs : List (Key × V), ps = kvs.map (fun kv => (kV kv.1, kv.2)) ∧ kvs.length ≤ 15 ∧ Q (.ref p) (upd H2 p (.dK (mergeK [] kvs)))
theorem pe_disp {X : Cx} {pos : Pos} {keys : List (Option Expr)} {values : List Expr} {trs : List (TE × TE)} (h : PPs X pos keys values trs) (hall : keys.all (·.isSome) = true) (hl : keys.length = values.length) (h0 : keys ≠ [])
   (h15 : keys.length ≤ 15) : PE X (.Dict keys values pos) (tDisp trs) := by
 intro pins s σ H Q I q
 have hn := I.hok.fresh (Nat.le_refl s.heap.objs.size)
 have I1 := I.laid (a := s.heap.objs.size) (o := .dK []) (h' := s.heap.push { cls := .type "dict", data := .dict #[] }) (t' := s.toks) (fun _ _ q => Heap.get?_push_of_some _ q) (Nat.le_refl _) (dk_empty s.heap I.big)
 refine wpAny_Dict_walk (knd := mixKind X.prog X.w) hall hl h0 h15 (thn (h pins _ σ _ _ I1 (q _ hn)) fun ws s2 ⟨ps, H2, I2, rel, e, kvs, ep, lk, q2⟩ => ?_)
 subst ep
 obtain ⟨rs, c, rk⟩ := carries_of (P := X.prog) (w := X.w) rel
 obtain ⟨z, hd, vs0, r0, dd⟩ := dk_of I2.hok e
 cases r0
 refine ⟨rs, c, dd, fun h' dd' hs => ⟨.ref s.heap.objs.size, _, ?_, rfl, q2⟩⟩
 have hz : (mergeK [] kvs).length ≤ sizeLine := by
   have h1 := length_mergeK kvs []
   rw [List.length_nil] at h1
   rw [sizeLine_eq]; omega
 have he : ∃ q, h'.get? s.heap.objs.size = some q := let ⟨q, _, _, hq, _⟩ := dd'; ⟨q, hq⟩
 exact d_write I2 (by rw [e]; exact True.intro) hs he (dk_new hz hd (rk.merge .nil) dd')




structure M1 (X : Cx) (o : Expr) (m : Str) (apos : Pos) (e : Expr) (cpos : Pos) : Prop where
 base : attributeBase o m X.env (eval o X.env) = eval o X.env
 few : ((backTo cpos (starEach [e] X.env)).all (fun x => !x.1) && (backToKw cpos (keywordEach [] X.env)).all (fun x => x.1.isSome)
   && decide (([e] : List Expr).length + ([] : List Keyword).length + (if ([] : List Keyword).isEmpty then 0 else 1) < 30)) = true
 line : (apos.endLine == cpos.line) = true
 trees : backTo cpos (starEach [e] X.env) = [(false, eval e X.env)]
structure M2 (X : Cx) (o : Expr) (m : Str) (apos : Pos) (e f : Expr) (cpos : Pos) : Prop where
 base : attributeBase o m X.env (eval o X.env) = eval o X.env
 few : ((backTo cpos (starEach [e, f] X.env)).all (fun x => !x.1) && (backToKw cpos (keywordEach [] X.env)).all (fun x => x.1.isSome)
   && decide (([e, f] : List Expr).length + ([] : List Keyword).length + (if ([] : List Keyword).isEmpty then 0 else 1) < 30)) = true
 line : (apos.endLine == cpos.line) = true
 trees : backTo cpos (starEach [e, f] X.env) = [(false, eval e X.env), (false, eval f X.env)]


section
variable {X : Cx} {pins : List (Addr × Obj)} {σ : St} {H : Hp} {s : Shared} {a : Addr} {y d : V} {u r : Value} {o : Option V} {A : Around} {E : Value → Shared → Prop}

end

section
variable {X : Cx} {o e f : Expr} {apos cpos : Pos} {td ty tx : TE}
end


section
variable {X : Cx} {pins : List (Addr × Obj)} {σ : St} {H : Hp} {s : Shared} {a : Addr} {kvs : List (Key × V)} {A : Around} {E : Value → Shared → Prop}
end


section
variable {X : Cx} {pins : List (Addr × Obj)} {σ : St} {H : Hp} {s : Shared} {a : Addr} {y : V} {u : Value} {A : Around} {E : Value → Shared → Prop}

end
end L2

set_option Elab.async false
set_option linter.all false
set_option maxRecDepth 100000
set_option maxHeartbeats 1000000
namespace L2
open PySem PySem.Spec PyProof.Rows
section
variable {X : Cx}
end
end L2

set_option Elab.async false
set_option linter.all false
set_option maxRecDepth 100000
set_option maxHeartbeats 1000000
namespace L2
open PySem PySem.Spec PyProof.Rows PySem.Builtin PySem.Builtin.ObjectAttr
structure XKl (K : PySem.W.Frag) (C : Addr) : Prop where
 ga : PySem.W.findIn K (.ref C) "__getattribute__" = some (some (.builtin "BaseException.__getattribute__"))
 gx : PySem.W.findIn K (.ref C) "__getattr__" = some none
 hd : PySem.W.hasDictIn K C = true
 ha : PySem.W.findIn K (.ref C) "__class__" = some (some (.builtin "object.__class__"))
 hn : PySem.W.specialIn K (.builtin "object.__class__") "__get__" = some (some (.builtin "getset_descriptor.__get__"))
 tk : PySem.W.takesIn K (.builtin "object.__class__") = some true
 hm : PySem.W.mroIn K C (.type "object") = some true
section
variable {P : Program} {w : World} {A : Around} {E : Value → Shared → Prop} {s : Shared} {K : PySem.W.Frag} {C N x : Addr} {bm : List Value} {ini : Option Value} {f : Str} {v : Value} {ox : Obj} {vs : Array Value}
theorem find_data {a g : Value} {odo : Option Obj} (hc : (PySem.W.clsIn K C).isSome = true) (ha : PySem.W.findIn K (.ref C) f = some (some a)) (hg : PySem.W.specialIn K a "__get__" = some (some g)) (ht : PySem.W.takesIn K a = some true) : PySem.W.findObj K C odo f = some (.bind g a) := by
 obtain ⟨cd, hc⟩ := Option.isSome_iff_exists.mp hc
 unfold PySem.W.findObj
 rw [hc, Option.bind_some, ha, Option.bind_some]
 simp [hg, ht]
theorem oga_bind {tk : Tok} {Q : Fin → Shared → Prop} {tp g a : Value} (L0 : PySem.W.Looks (model P w) s.heap (typeOf (.ref x)) tp) (L1 : PySem.W.Looks (model P w) s.heap (find (.ref x) tp f) (.bind g a))
   (h : wpAny (model P w) A (call g [a, .ref x, tp]) (fun v s' => Q (.done (.ret v)) s') E s) :
   wpAny (model P w) A (Builtin.«object.__getattribute__» ⟨[.ref x, .str f tk], []⟩) Q E s := by
 unfold Builtin.«object.__getattribute__»
 refine wpAny_bind (m := slotArgs _ _ _) ?_
 refine wpAny_pure (a := (Value.ref x, [Value.str f tk])) ?_
 refine wpAny_bind (m := attrName _) ?_
 refine wpAny_pure (a := f) ?_
 refine wpAny_bind (L0.here ?_)
 refine wpAny_bind (L1.here ?_)
 first
   | exact wpAny_bind (wpAny_holding (wpAny_mono h (fun v s' z => wpAny_pure z) fun _ _ z => z))
   | exact wpAny_bind (wpAny_mono h (fun v s' z => wpAny_pure z) fun _ _ z => z)
theorem exc_class {od : Option Obj} {Q : Option Value → Shared → Prop} (kin : K.In s.heap) (c : XCl K C N bm ini) (tl : XTl K bm) (k : XKl K C) (J : PySem.W.InstAt s.heap x ox C od)
   (h : Q (some (.ref C)) { s with toks := s.toks + 1 }) : wpAny (model P w) A (getAttr? (.ref x) "__class__") Q E s := by
 obtain ⟨cd, hcd, hm, hdd⟩ := c.cls k.hd
 have FO : PySem.W.findObj K C od "__class__" = some (.bind (.builtin "getset_descriptor.__get__") (.builtin "object.__class__")) := find_data (by rw [hcd]; rfl) k.ha k.hn k.tk
 have hob : (cd.mro.contains (.type "BaseException")) = true := by rw [hm, List.contains_cons, tl.base]; rfl
 have ne : cd.mro.isEmpty = false := by rw [hm]; rfl
 have sub : PySem.W.Looks (model P w) s.heap (isInstance (.ref x) (.type "BaseException")) true :=
   J.type.andThen (PySem.W.looks_mroIn kin (by unfold PySem.W.mroIn; rw [hcd, Option.bind_some, if_neg (by rw [ne]; decide), hob]))
 have hk : PySem.W.Looks (model P w) s.heap (hookBefore (.ref C)) none := PySem.W.looks_hook kin (by show (if onTheHeap (.ref C) then _ else _) = _; exact k.gx)
 have L1 := PySem.W.looks_find (M := model P w) kin J FO
 unfold getAttr? getAttrBy? getAttrBy
 refine wpAny_bind (wpAny_mkText (wpAny_bind (wpAny_attempt (wpAny_holding (wpAny_bind (J.type _ _ _ _ (fun _ _ e => e) (wpAny_bind (PySem.W.looks_findIn kin k.ga _ _ _ _ (fun _ _ e => e) ?_))))))))
 dsimp only
 rw [show (onTheHeap (Value.ref C) && Value.builtin "BaseException.__getattribute__" == Value.builtin "object.__getattribute__") = false from by rw [show (Value.builtin "BaseException.__getattribute__" == Value.builtin "object.__getattribute__") = false from by decide +kernel]; exact Bool.and_false _, if_neg (by decide)]
 refine wpAny_bind (hk _ _ _ _ (fun _ _ e => e) (wpAny_bind (wpAny_attempt (wpAny_holding ?_))))
 unfold callGetattribute
 rw [show (false && onTheHeap (Value.builtin "BaseException.__getattribute__")) = false from Bool.false_and _, if_neg (by decide)]
 unfold boundAndCalled
 rw [PySem.F.attr_ValueError.ga.bind]
 refine wpAny_bind (wpAny_pure ?_)
 show wpAny _ _ (call (.builtin "BaseException.__getattribute__") [.ref x, .str "__class__" s.toks]) _ _ _
 refine wpAny_call (codeAny_call_builtin PySem.F.attr_ValueError.ga.plain PySem.F.entry_bexc_ga (PySem.W.check_slot (M := model P w) (s := { s with toks := s.toks + 1 }) (i := "BaseException.__getattribute__") (owner := "BaseException") (n := "__getattribute__") (self := .ref x) (rest := [.str "__class__" s.toks]) (kw := []) (by decide +kernel) (by decide +kernel) sub (PySem.F.args_bexc_ga (.ref x) (.str "__class__" s.toks)) ?_))
 refine oga_bind (s := { s with toks := s.toks + 1 }) J.type L1 (wpAny_call (PySem.W.class_get (s := { s with toks := s.toks + 1 }) (ox := ox) (od := od) kin J k.hm ?_))
 show wpAny _ _ (handedOut (.ref C)) _ _ _
 rw [PySem.W.handedOut_of rfl]
 exact wpAny_pure (wpAny_pure h)
theorem kitx_exc {x : Addr} {ox : Obj} {od : Option Obj} (c : XCl K C N bm ini) (tl : XTl K bm) (k : XKl K C) : PySem.W.KitX K (.ref x) (.ref C) (fun h => PySem.W.InstAt h x ox C od) where
 ty := fun _ _ _ I => I.type
 it := fun _ _ X _ => by
   obtain ⟨nm, q, bs, hdct, sn, sub, ab, col, dd, k0, k1, k2, k3, k5, lc⟩ := c.ob
   intro A' Q' E' s' k q
   unfold isType loadHead
   exact wpAny_bind (wpAny_loadPart (k _ _ (X _ _ lc)) (wpAny_pure q))
 ne := fun h tp dd its n sl X htp => by
   obtain ⟨nm, q, bs, hdct, sn, sub, ab, col, dd, k0, k1, k2, k3, k5, lc⟩ := c.ob
   refine Bool.eq_false_iff.mpr fun q => ?_
   have e : C = tp := Value.ref.inj (beq_iff_eq.mp q)
   subst e
   have z := congrArg Obj.cls (Option.some.inj ((X _ _ lc).symm.trans htp))
   have z : Value.type "type" = Value.type "tuple" := z
   injection z with z
   exact absurd z (by decide)
 ca := fun X I q => exc_class X c tl k I q
end
section
variable {X : Cx} {K : PySem.W.Frag}
def XOb (H : Hp) (ea C : Addr) : Prop := ∃ od, (H ea = some (xmO ea (.ref C) od) ∨ H ea = some (xcO ea (.ref C) od)) ∧ (od = none ∨ ∃ d fs, od = some d ∧ H d = some (xdO d fs))
theorem XOb.at {pins : List (Addr × Obj)} {σ : St} {H : Hp} {s : Shared} {ea C : Addr} (I : Inv X pins σ H s) (h : XOb H ea C) : ∃ o od, PySem.W.InstAt s.heap ea o C od := by
 obtain ⟨od, e, d⟩ := h
 obtain ⟨o, vs, q1, q2, q3, q4⟩ : ∃ o vs, s.heap.get? ea = some o ∧ o.cls = .ref C ∧ o.dict = od ∧ o.data = .fields vs := by
   rcases e with e | e
   · obtain ⟨⟨o, vs, q1, q2, q3, q4, _⟩, _⟩ := I.hok ea _ e
     exact ⟨o, vs, q1, q2, q3, q4⟩
   · obtain ⟨⟨o, vs, q1, q2, q3, q4, _⟩, _⟩ := I.hok ea _ e
     exact ⟨o, vs, q1, q2, q3, q4⟩
 have no : ∀ {P : Prop}, P → P := id
 rcases d with rfl | ⟨d, fs, rfl, e2⟩
 · exact ⟨o, none, q1, q2, by obtain ⟨oc, odi, oda, osl⟩ := o; cases q4; rfl, by rw [q3]; exact True.intro⟩
 · obtain ⟨⟨mA, ⟨od, es, n, ho, _⟩, _⟩, _⟩ := I.hok d _ e2
   exact ⟨o, some od, q1, q2, by obtain ⟨oc, odi, oda, osl⟩ := o; cases q4; rfl, by rw [q3]; exact ho⟩
theorem XOb.mono {H H' : Hp} {ea C : Addr} (s : Same H H') (h : XOb H ea C) : XOb H' ea C := by
 obtain ⟨od, e, d⟩ := h
 refine ⟨od, e.imp (s _ _) (s _ _), d.imp id fun ⟨d, fs, e1, e2⟩ => ⟨d, fs, e1, s _ _ e2⟩⟩
def rIsX (K : PySem.W.Frag) : List V → Hp → VK → Prop := fun xs H Q => ∃ ea C N bm ini c b, xs = [.ref ea, c] ∧ XOb H ea C ∧ XCl K C N bm ini ∧ XTl K bm ∧ XKl K C ∧ ((∃ n, c = .ty n ∧ PySem.W.kitOne K (.ref C) (.type n) = some b) ∨ (∃ a, c = .ref a ∧ PySem.W.kitOne K (.ref C) (.ref a) = some b)) ∧ Q (.bl b) H
theorem call_isX (h : X.K = K) : CallR X (.builtin "isinstance") (rIsX K) := by
 subst h
 intro pins s σ H xs us Q I r h
 obtain ⟨ea, C, N, bm, ini, c, b, rfl, xo, xc, tl, k, hc, q⟩ := h
 obtain ⟨u, w', rfl, ru, rw'⟩ := vals2 r
 obtain ⟨o, od, J⟩ := xo.at I
 cases (show u = Value.ref ea from ru)
 rcases hc with ⟨n, rfl, e⟩ | ⟨a, rfl, e⟩
 · cases rw'
   exact PySem.W.kia_one (kitx_exc xc tl k) I.kIn J e (fun z => nomatch z) fun tk => ⟨.bl b, H, I.tok tk, rfl, q⟩
 · cases rw'
   exact PySem.W.kia_one (kitx_exc xc tl k) I.kIn J e (fun z => nomatch z) fun tk => ⟨.bl b, H, I.tok tk, rfl, q⟩
end
section
variable {X : Cx} {C N fI : Addr} {bm : List Value} {x : Str} {np cpos : Pos} {e : Expr} {es : List Expr} {t : TA}
end
section
variable {K : PySem.W.Frag} {C D N N' : Addr} {bm bm' : List Value} {ini ini' : Option Value} {b : Bool}
theorem XCl.kind (c : XCl K C N bm ini) : (PySem.W.clsIn K C).isSome = true ∧ PySem.W.typeIn K (.ref C) = some (.type "type") := by
 obtain ⟨nm, q, bs, hdct, sn, sub, ab, col, dd, k0, k1, k2, k3, k5, lc⟩ := c.ob
 constructor
 · unfold PySem.W.clsIn; rw [lc]; rfl
 · show (K.lookup C).map (·.cls) = _; rw [lc]; rfl
theorem XCl.self (c : XCl K C N bm ini) : PySem.W.mroIn K C (.ref C) = some true := by
 obtain ⟨nm, q, bs, hdct, sn, sub, ab, col, dd, k0, k1, k2, k3, k5, lc⟩ := c.ob
 unfold PySem.W.mroIn PySem.W.clsIn
 rw [lc]
 show (if (Value.ref C :: bm).isEmpty = true then none else some ((Value.ref C :: bm).contains (.ref C))) = some true
 simp
theorem kit_x (c : XCl K C N bm ini) (d : XCl K D N' bm' ini') (m : PySem.W.mroIn K C (.ref D) = some b) : PySem.W.kitOne K (.ref C) (.ref D) = some b := by
 unfold PySem.W.kitOne
 by_cases e : C = D
 · subst e
   rw [c.self] at m
   rw [if_pos (by simp)]; exact m
 · rw [if_neg (by simp; exact e)]
   unfold PySem.W.kitCls
   dsimp only
   rw [d.kind.1, d.kind.2, if_pos (by decide)]
   exact m
theorem kit_t (m : PySem.W.mroIn K C (.type "ValueError") = some b) : PySem.W.kitOne K (.ref C) (.type "ValueError") = some b := by
 unfold PySem.W.kitOne
 rw [if_neg (by simp)]
 unfold PySem.W.kitCls
 dsimp only
 rw [if_pos (by decide +kernel)]
 exact m
end
end L2

set_option Elab.async false
set_option linter.all false
set_option maxRecDepth 100000
set_option maxHeartbeats 1000000
namespace L2
open PySem PySem.Spec PyProof.Rows PySem.Builtin
theorem entry_unchain : entryFor table "proto.unchain" = some Builtin.«proto.unchain» := entryFor_of_fast (by kernel_rfl)
section
variable {prog : Program} {w : World} {A : Around} {E : Value → Shared → Prop} {s : Shared} {α : Type}
theorem raiseNew_in {e ea : Addr} {o oe : Obj} {vs ws : Array Value} {Q : α → Shared → Prop} (hh : A.handled = some (.ref ea)) (he : s.heap.get? ea = some o) (hd : o.data = .fields vs) (h2 : vs[2]? = some .none) (hne : ea ≠ e)
   (hx : s.heap.get? e = some oe) (hxd : oe.data = .fields ws) (hz : 2 < ws.size) (h : E (.ref e) { s with heap := s.heap.update e (Obj.mapFields (·.setIfInBounds 2 (.ref ea))) }) : wpAny (model prog w) A (raiseNew (.ref e) : Sem α) Q E s := by
 unfold raiseNew
 refine wpAny_bind (wpAny_handled ?_)
 rw [hh]
 dsimp only
 rw [if_pos (show (Value.ref ea != Value.ref e) = true from by simp [hne])]
 refine wpAny_bind (wpAny_holding (wpAny_runValue (codeAny_builtin entry_unchain ?_)))
 show wpAny _ _ (field (.ref ea) 2 >>= _) _ _ s
 refine wpAny_bind (wpAny_field he hd h2 ?_)
 rw [if_pos (by decide)]
 refine wpAny_pure ?_
 show wpAny _ _ (setField (.ref e) 2 (.ref ea) >>= fun _ => throw (.ref e)) _ _ s
 exact wpAny_bind (wpAny_setField hx hxd hz (wpAny_throw h))
theorem range_end_in {it ea : Addr} {o : Obj} {vs : Array Value} {x left step : Int} {Q : Option Value → Shared → Prop} (hh : A.handled = some (.ref ea)) (he : s.heap.get? ea = some o) (hd : o.data = .fields vs) (h2 : vs[2]? = some .none)
   (hit : IsRangeIter s.heap it x left step) (hleft : left ≤ 0)
   (hQ : ∀ h', Heap.ExtBut it s.heap h' → Q none { s with heap := h' }) : wpAny (model prog w) A (pyNext (.ref it)) Q E s := by
 have hT : s.TypeIs (.ref it) "range_iterator" := ⟨_, hit, rfl⟩
 unfold pyNext
 refine wpAny_bind (wpAny_attempt (wpAny_callSpecial?_slot (name := Str.ofString "__next__") hT F.slot_range_iterator_next
   (wpAny_call_entry F.slot_range_iterator_next hT F.entry_range_iterator_next ?_ (F.args_range_iterator_next_1 _))))
 show wpAny _ _ (field (.ref it) 0 >>= _) _ _ s
 refine wpAny_bind (wpAny_field hit rfl (x := rawInt x) rfl ?_)
 show wpAny _ _ (field (.ref it) 1 >>= _) _ _ s
 refine wpAny_bind (wpAny_field hit rfl (x := rawInt left) rfl ?_)
 show wpAny _ _ (field (.ref it) 2 >>= _) _ _ s
 refine wpAny_bind (wpAny_field hit rfl (x := rawInt step) rfl ?_)
 show wpAny _ _ (if left ≤ 0 then _ else _) _ _ s
 rw [if_pos hleft]
 refine wpAny_bind (wpAny_rule ?_)
 refine wpAny_bind ?_
 show wpAny _ _ (newExc (.type "StopIteration") [] >>= _) _ _ _
 refine wpAny_bind ?_
 simp only [newExc, newTuple]
 refine wpAny_bind (wpAny_newObj_type ?_ (by size_fits))
 refine wpAny_bind (m := firstArgMember _ _) (wpAny_of_eq (a := Value.none) (by first | rfl | (simp only [firstArgMember]; rfl)) ?_)
 refine wpAny_newObj_type ?_ (by size_fits)
 have up : ∀ (a b : Obj), ((s.heap.push a).push b).get? ea = some o := fun a b => Heap.get?_push_of_some _ (Heap.get?_push_of_some _ he)
 have ne : ∀ (a : Obj), ea ≠ (s.heap.push a).objs.size := fun a z => by have l := Heap.lt_size he; rw [Heap.size_push] at z; exact absurd z (Nat.ne_of_lt (Nat.lt_succ_of_lt l))
 refine raiseNew_in (A := A.in1) hh (up _ _) hd h2 (ne _) (Heap.get?_push_size _ rfl) rfl (by rw [Array.size_append]; show 2 < 6 + _; omega) ?_
 refine wpAny_bind (wpAny_isInstance (T := "StopIteration") (b := true) ⟨_, Heap.get?_update_self _ (Heap.get?_push_size _ rfl) rfl, rfl⟩ isSubtype_stop ?_)
 rw [if_pos rfl]
 refine wpAny_pure (hQ _ fun b q hb e => ?_)
 refine (Heap.get?_update_other _ _ (fun z => ?_)).trans (Heap.get?_push_of_some _ (Heap.get?_push_of_some _ e))
 have l := Heap.lt_size e
 rw [← z] at l
 have l2 : (s.heap.push _).objs.size < s.heap.objs.size := l
 rw [Heap.size_push] at l2
 omega
end
end L2

set_option Elab.async false
set_option linter.all false
set_option maxRecDepth 100000
set_option maxHeartbeats 4000000
namespace L2
open PySem PySem.Spec PyProof.Rows
structure TurnG (G : Cx → Prop) (P : Program) (w : World) (K : PySem.W.Frag) (tg : Expr) (J : It) (fp : List Addr) (it : Addr) (tn : Nat → Heap → Prop) : Prop where
 mem : it ∈ fp
 obj : ∀ i h, tn i h → ∀ b ∈ fp, ∃ o, h.get? b = some o ∧ ∀ v, o.data ≠ .cell v
 keep : ∀ i h h', tn i h → (∀ b ∈ fp, ∀ o, h.get? b = some o → h'.get? b = some o) → tn i h'
 item : ∀ (X : Cx), X.prog = P → X.w = w → X.K = K → G X → ∀ (i : Nat) (pins : List (Addr × Obj)) (s : Shared) (σ : St) (H : Hp) (E : Value → Shared → Prop), Inv X pins σ H s → (∀ b ∈ fp, FpOk X pins H b) → tn i s.heap → J.go i H →
   wpAny (model P w) X.A (pyNext (.ref it)) (fun r s1 => ∃ u, r = some u ∧
     wpAny (model P w) X.A (letOwnedTupleGo tg (.ref it) u) (fun _ s2 => ∃ x H', Inv X pins σ H' s2 ∧ RelV x u ∧ J.yld i H x H' ∧ tn (i + 1) s2.heap ∧ ∀ b ∈ fp, H' b = none) E s1) E s
 done : ∀ (X : Cx), X.prog = P → X.w = w → X.K = K → G X → ∀ (i : Nat) (pins : List (Addr × Obj)) (s : Shared) (σ : St) (H : Hp) (E : Value → Shared → Prop), Inv X pins σ H s → (∀ b ∈ fp, FpOk X pins H b) → tn i s.heap → J.stop i H →
   wpAny (model P w) X.A (pyNext (.ref it)) (fun r s1 => r = none ∧ Inv X pins σ H s1) E s
 self : ∀ (A : Around) (i : Nat) (s : Shared) (Q : Value → Shared → Prop) (E : Value → Shared → Prop), tn i s.heap → Q (.ref it) s → wpAny (model P w) A (pyIter (.ref it)) Q E s
def PIEG (G : Cx → Prop) (X : Cx) (pins : List (Addr × Obj)) (σ : St) (tg : Expr) (R : It → Hp → Prop) (itv : Value) (s2 : Shared) : Prop :=
 ∃ (it : Addr) (fp : List Addr) (tn : Nat → Heap → Prop) (J : It) (H' : Hp), itv = .ref it ∧ Inv X pins σ H' s2 ∧ TurnG G X.prog X.w X.K tg J fp it tn ∧ tn 0 s2.heap ∧ (∀ b ∈ fp, FpOk X pins H' b) ∧ R J H'
def PIG (G : Cx → Prop) (X : Cx) (tg iter : Expr) (wi : TI) : Prop :=
 ∀ (pins : List (Addr × Obj)) (s : Shared) (σ : St) (H : Hp) (R : It → Hp → Prop), Inv X pins σ H s → wi σ H R →
   wpAny (model X.prog X.w) X.A (eval iter X.env) (fun v s1 => wpAny (model X.prog X.w) X.A (pyIter v) (PIEG G X pins σ tg R) X.xe s1) X.xe s
def ItrH (ea : Addr) (lo : Int) (n : Nat) : It := ⟨fun i _ => i < n, fun i H x H' => H' = H ∧ x = .int (lo + i), fun i H => n ≤ i ∧ ∃ C od, H ea = some (xcO ea C od)⟩
def Hd (ea : Addr) (X : Cx) : Prop := X.A.handled = some (.ref ea)
theorem turn_rangeH {P : Program} {w : World} {K : PySem.W.Frag} {tg : Expr} (ea it : Addr) (lo : Int) (n : Nat) : TurnG (Hd ea) P w K tg (ItrH ea lo n) [it] it (fun i h => IsRangeIter h it (lo + (i : Nat) * 1) ((n : Int) - (i : Nat)) 1) where
 mem := by simp
 obj := fun i h st b hb => by
   have e : b = it := by simpa using hb
   subst e
   exact ⟨_, st, fun v z => by
     have z' : Data.fields _ = Data.cell v := z
     cases z'⟩
 keep := fun i h h' st k => k it (by simp) _ st
 item := by
   intro X hP hw hK hc i pins s σ H E I hf st hg
   subst hP hw hK
   obtain ⟨f0, f1, f2, f3, f4, f5⟩ := hf it (by simp)
   have hg : i < n := hg
   refine wpAny_pyNext_range_item st (by omega) fun h' st' sb => ?_
   have I1 : Inv X pins σ H { s with heap := h', toks := s.toks + 1 } := I.turned (fun b o hb e => (sb.2 b hb).trans e) f0 f1 f3 f4 f5
   have st2 : IsRangeIter h' it (lo + ((i + 1 : Nat) : Int) * 1) ((n : Int) - ((i + 1 : Nat) : Int)) 1 := by
     have e1 : lo + ((i + 1 : Nat) : Int) * 1 = lo + (i : Nat) * 1 + 1 := by omega
     have e2 : (n : Int) - ((i + 1 : Nat) : Int) = (n : Int) - (i : Nat) - 1 := by omega
     rw [e1, e2]; exact st'
   refine ⟨_, rfl, go_of (s := { s with heap := h', toks := s.toks + 1 }) (n := "range_iterator") st' rfl rfl (by decide) ⟨.int (lo + i), H, I1, ⟨s.toks, ?_⟩, ⟨rfl, rfl⟩, st2, fun b hb => (hf b hb).1⟩⟩
   rw [Int.mul_one]
 done := by
   intro X hP hw hK hc i pins s σ H E I hf st hg
   subst hP hw hK
   obtain ⟨f0, f1, f2, f3, f4, f5⟩ := hf it (by simp)
   obtain ⟨hn, C, od, hea⟩ := hg
   obtain ⟨⟨o, vs, q1, q2, q3, q4, q5⟩, _⟩ := I.hok ea _ hea
   exact range_end_in hc q1 q4 q5 st (by omega) fun h' eb => ⟨rfl, I.turned (t' := s.toks) (fun b o hb e => eb b o hb e) f0 f1 f3 f4 f5⟩
 self := fun _ _ _ _ _ st h => wpAny_pyIter_rangeiter st h
section
variable {X : Cx} {tg : Expr} {ea : Addr}
theorem range_itH {pins : List (Addr × Obj)} {σ : St} {H : Hp} {s : Shared} {R : It → Hp → Prop} {E : Value → Shared → Prop} {lo hi : Int} {t u v : Tok} {tk : Nat} (I : Inv X pins σ H s) (h1 : -(2 ^ 62) ≤ lo) (h2 : lo < 2 ^ 62) (h3 : -(2 ^ 62) ≤ hi) (h4 : hi < 2 ^ 62)
   (q : R (ItrH ea lo (hi - lo).toNat) H) : wpAny (model X.prog X.w) X.A (pyIter (.ref s.heap.objs.size)) (PIEG (Hd ea) X pins σ tg R) E { s with heap := s.heap.push { cls := .type "range", data := .fields #[.int lo t, .int hi u, .int 1 v] }, toks := tk } := by
 refine wpAny_pyIter_range (IsRange.new ..) (small_one h1 h2 h3 h4) ?_
 have I1 : Inv X pins σ H { s with heap := s.heap.push { cls := .type "range", data := .fields #[.int lo t, .int hi u, .int 1 v] }, toks := tk } := I.kept fun b o e => Heap.get?_push_of_some _ e
 refine ⟨(s.heap.push { cls := .type "range", data := .fields #[.int lo t, .int hi u, .int 1 v] }).objs.size, [(s.heap.push { cls := .type "range", data := .fields #[.int lo t, .int hi u, .int 1 v] }).objs.size], _, _, H, rfl,
   I1.kept (t' := tk) fun b o e => Heap.get?_push_of_some _ e, turn_rangeH ea _ lo (hi - lo).toNat, ?_, fun b hb => ?_, q⟩
 · have e1 : lo + ((0 : Nat) : Int) * 1 = lo := by simp
   have e2 : (((hi - lo).toNat : Nat) : Int) - ((0 : Nat) : Int) = Builtin.Range.rangeSize lo hi 1 := by rw [rangeSize_one]; split <;> omega
   show IsRangeIter _ _ (lo + ((0 : Nat) : Int) * 1) ((((hi - lo).toNat : Nat) : Int) - ((0 : Nat) : Int)) 1
   rw [e1, e2]
   exact Heap.get?_push_size _ rfl
 · have e : b = (s.heap.push { cls := .type "range", data := .fields #[.int lo t, .int hi u, .int 1 v] }).objs.size := by simpa using hb
   subst e
   exact I1.fpOk (Nat.le_refl _) (I1.hok.fresh (Nat.le_refl _))
def iRngH (ea : Addr) (ta : TA) : TI := fun σ H R => ta σ H fun vs H1 => ∃ j : Int, vs = [.int j] ∧ -(2 ^ 62) ≤ j ∧ j < 2 ^ 62 ∧ R (ItrH ea 0 j.toNat) H1
theorem pi_rangeH {a : Expr} {ta : TA} {p pos : Pos} (hg : Gl X "range") (hm : X.mg "range" = none) (ha : PA X [a] ta) (hs : starEach [a] X.env = [(false, eval a X.env)] := by rfl) : PIG (Hd ea) X tg (.Call (.Name "range" p) [a] [] pos) (iRngH ea ta) := by
 intro pins s σ H R I h
 refine Call_ (ld_blt I hg hm boot_range (PyProof.Rows.callWith_type1 (thn (ha pos pins s σ H _ I h) fun us s1 ⟨vs, H1, I1, r1, q1⟩ => ?_) hs rfl))
 obtain ⟨j, e, q1, q2, q⟩ := q1
 subst e
 cases r1 with
 | cons r rr =>
   cases rr
   obtain ⟨t, rfl⟩ := r
   exact call_range_1 (range_itH I1 (by omega) (by omega) q1 q2 (by simpa using q))
end
section
variable {X : Cx} {elt tg iter : Expr} {ifs : List Expr} {scope : Scope} {pos : Pos} {N : List Str} {nv : Nat} {js : List Nat} {wi : TI} {g : TG} {tt : TT} {te : TE}
theorem comp_blockG {G : Cx → Prop} {pins : List (Addr × Obj)} {σ : St} {H : Hp} {s : Shared} {Q : VK} {it : Addr} {fp : List Addr} {tn : Nat → Heap → Prop} {J : It} {E : Value → Shared → Prop} {RR : Value → Addr → Result → Shared → Prop} (hc : ∀ C s H fp, G (cxComp X N scope C s H fp))
   (S : CompScope X.N X.env.scope N nv js scope) (hg : ∀ C s H fp, PG (cxComp X N scope C s H fp) tg g) (ht : ∀ C s H fp, PIfs (cxComp X N scope C s H fp) ifs tt) (he : ∀ C s H fp, PE (cxComp X N scope C s H fp) elt te)
   (I : Inv X pins σ H s) (T : TurnG G X.prog X.w X.K tg J fp it tn) (st : tn 0 s.heap) (hf : ∀ b ∈ fp, FpOk X pins H b) (hR : ∀ D, H D = none → CompR J g tt te Q D (compSt nv js σ) H)
   (hRR : ∀ D C H' s' m, Inv X pins σ H' s' → FpOk X pins H' C → s'.heap.Ns C m → Q (.ref D) H' → RR (.ref D) C (.ok .next) s') :
   wpAny (model X.prog X.w) X.A (newList []) (fun acc s₃ => wpAny (model X.prog X.w) X.A (newFunctionEnv scope X.env.globals (closOf X.env scope.names []) [] X.env.qual none .none (some X.env)) (fun cenv s₄ =>
     codeAny (model X.prog X.w) X.A (.compStart (.ListComp elt [⟨tg, iter, ifs, 0⟩] scope pos) 0 (.ref it) acc { cenv with scope := relabel scope X.env }) (RR acc cenv.locals) s₄) E s₃) E s := by
 refine wpAny_newObj_type (wpAny_newFunctionEnv S.cell (by intro y hy; simp at hy) (fun h₁ hns₁ hsb₁ => ?_) S.kind)
 have I3 : Inv X pins σ (upd H s.heap.objs.size (.lst [])) { s with heap := s.heap.push { cls := .type "list", data := .seq ([] : List Value).toArray } } := I.lnew (t' := s.toks) (its := []) .nil (Nat.zero_le _)
 have hD := I.fresh
 obtain ⟨W, ⟨m0, w0⟩, turn⟩ := hR s.heap.objs.size hD
 have ho := T.obj 0 s.heap st
 have hfl0 : ∀ b ∈ fp, b < s.heap.objs.size := fun b hb => let ⟨o, e, _⟩ := ho b hb; Heap.lt_size e
 have hf3 : ∀ b ∈ fp, FpOk X pins (upd H s.heap.objs.size (.lst [])) b := fun b hb => ⟨by rw [upd_ne (Nat.ne_of_lt (hfl0 b hb))]; exact (hf b hb).1, (hf b hb).2⟩
 generalize hs3 : ({ s with heap := s.heap.push { cls := .type "list", data := .seq ([] : List Value).toArray } } : Shared) = s3 at I3 hns₁ hsb₁
 have e3 : s3.heap = s.heap.push { cls := .type "list", data := .seq ([] : List Value).toArray } := by rw [← hs3]
 have hfl : ∀ b ∈ fp, b < s3.heap.objs.size := fun b hb => by rw [e3, Heap.size_push]; exact Nat.lt_succ_of_lt (hfl0 b hb)
 have keep : ∀ b o, s3.heap.get? b = some o → h₁.get? b = some o := fun b o e => hsb₁.extBut b o (Nat.ne_of_lt (Heap.lt_size e)) (Heap.get?_push_of_some _ e)
 have J0 := comp_start (tk := s3.toks + ([] : List (Str × Value)).length) I3 S hf3 hfl keep hns₁
 have st1 : tn 0 h₁ := T.keep 0 s.heap h₁ st fun b hb o e => keep b o (by rw [e3]; exact Heap.get?_push_of_some _ e)
 generalize hH3 : upd H s.heap.objs.size (.lst []) = H3 at *
 generalize hY : cxComp X N scope s3.heap.objs.size s3 H3 fp = Y at *
 have sub : ∀ x c, (closOf X.env scope.names []).lookup x = some c → X.env.cells.lookup x = some c :=
   closOf_sub scope.names [] (fun n hn => I.ok.has n (S.free _ hn rfl)) (fun x c z => by cases z)
 have stat : ∀ {H' : Hp}, (∀ b ∈ fp, H' b = none) → ∀ b ∈ fp, FpOk Y [] H' b := fun {H'} hn b hb => by
   subst hY
   obtain ⟨f0, f1, f2, f3, f4, f5⟩ := hf3 b hb
   refine ⟨hn b hb, Nat.ne_of_lt (hfl b hb), fun z => ?_, .inl hb, fun x c e => f4 x c (sub x c e), fun p hp => absurd (show p ∈ ([] : List (Addr × Obj)) from hp) (by simp)⟩
   rcases List.mem_cons.mp (I3.stkSub b z) with q | q
   · exact f1 q
   · exact f2 q
 have eA : Y.A = X.A := by subst hY; rfl
 have eP : Y.prog = X.prog := by subst hY; rfl
 have eW : Y.w = X.w := by subst hY; rfl
 have eK : Y.K = X.K := by subst hY; rfl
 have eC : G Y := by subst hY; exact hc _ _ _ _
 have eE : Y.env = compEnvC scope (closOf X.env scope.names []) s3.heap.objs.size X.env := by subst hY; rfl
 have eXe : Y.xe = fun _ _ => False := by subst hY; rfl
 have hgY : PG Y tg g := by subst hY; exact hg _ _ _ _
 have htY : PIfs Y ifs tt := by subst hY; exact ht _ _ _ _
 have heY : PE Y elt te := by subst hY; exact he _ _ _ _
 have loop : codeAny (model X.prog X.w) X.A (.compLoop (.ListComp elt [⟨tg, iter, ifs, 0⟩] scope pos) 0 (.ref it) (.ref s.heap.objs.size) (compEnvC scope (closOf X.env scope.names []) s3.heap.objs.size X.env))
     (RR (.ref s.heap.objs.size) s3.heap.objs.size) { s3 with heap := h₁, toks := s3.toks + ([] : List (Str × Value)).length } := by
   refine loop_tests (fun n s' => ∃ i ys τ H', Inv Y [] τ H' s' ∧ tn i s'.heap ∧ (∀ b ∈ fp, H' b = none) ∧ W i n ys τ H') ?_ m0 ⟨0, [], _, H3, J0, st1, fun b hb => (hf3 b hb).1, w0⟩
   rintro n s4 ⟨i, ys, τ, H4, I4, st4, fr4, w4⟩
   obtain ⟨hDl, tr⟩ := turn i n ys τ H4 w4
   rcases tr with ⟨stop, qn⟩ | ⟨go, Nn, hNn, step⟩
   · have d := T.done Y eP eW eK eC i [] s4 τ H4 (fun _ _ => False) I4 (stat fr4) st4 stop
     rw [eA] at d
     refine thn d fun r s5 ⟨hr, I5⟩ => ?_
     subst hr
     have u : Inv X pins σ H4 s5 := by
       subst hY
       exact I3.call' (ch := fp) I5.os I5.base I5.hok I5.bare fun b hb => ⟨(hf3 b hb).2.2.2.1, (hf3 b hb).2.1, (hf3 b hb).2.2.2.2.1, (hf3 b hb).2.2.2.2.2⟩
     have hC : H4 s3.heap.objs.size = none := by have z := I5.free; rw [eE] at z; exact z
     obtain ⟨m, hn, _⟩ := I5.loc
     rw [eE] at hn
     exact hRR _ _ H4 s5 m u (I3.fpOk (Nat.le_refl _) hC) hn qn
   · have d := T.item Y eP eW eK eC i [] s4 τ H4 (fun _ _ => False) I4 (stat fr4) st4 go
     rw [eA] at d
     refine thn d fun r s5 ⟨u, hr, h5⟩ => ?_
     subst hr
     refine thn h5 fun _ s6 ⟨x, H6, I6, r6, y6, st6, fr6⟩ => ?_
     have I6' := I6.pinned (stat fr6) (T.obj _ _ st6)
     have q6 := hgY _ s6 τ H6 x u _ I6' r6 (step x H6 y6)
     rw [eP, eW, eA, eE, eXe] at q6
     refine thn q6 fun _ s7 ⟨σ7, H7, I7, q7⟩ => ?_
     have q8 := htY _ s7 σ7 H7 _ I7 q7
     rw [eP, eW, eA, eE, eXe] at q8
     refine thn q8 fun ok s8 ⟨H8, I8, q8⟩ => ?_
     have again : ∀ {σ9 : St} {H9 : Hp} {s9 : Shared} {zs : List V}, Inv Y ([] ++ pinsAt fp s6.heap) σ9 H9 s9 → (∃ m', m' < n ∧ W (i + 1) m' zs σ9 H9) → ∃ m, m < n ∧ ∃ i ys τ H', Inv Y [] τ H' s9 ∧ tn i s9.heap ∧ (∀ b ∈ fp, H' b = none) ∧ W i m ys τ H' := fun {σ9 H9 s9 zs} I9 n9 => by
       obtain ⟨m', hm, w9⟩ := n9
       refine ⟨m', hm, i + 1, zs, σ9, H9, I9.unpinned, T.keep _ _ _ st6 fun b hb o e => (I9.pin (b, o) (List.mem_append_right _ (List.mem_append_right _ (mem_pinsAt hb e)))).1, fun b hb => ?_, w9⟩
       obtain ⟨o, e, d⟩ := T.obj _ _ st6 b hb
       exact (I9.pin (b, o) (List.mem_append_right _ (List.mem_append_right _ (mem_pinsAt hb e)))).2.1
     cases ok with
     | false =>
       rw [if_neg Bool.false_ne_true]
       rw [if_neg Bool.false_ne_true] at q8
       exact again I8 (hNn _ _ _ q8)
     | true =>
       rw [if_pos rfl]
       rw [if_pos rfl] at q8
       have q9 := heY _ s8 σ7 H8 _ I8 q8
       rw [eP, eW, eA, eE, eXe] at q9
       refine thn q9 fun y s9 ⟨yv, H9, I9, r9, hD9, hz9, q9⟩ => ?_
       have ap := mt_append (X := Y) _ s9 σ7 H9 (.ref s.heap.objs.size) [yv] (.ref s.heap.objs.size) [y] (fun _ H10 => Nn (ys ++ [yv]) σ7 H10) I9 rfl (.cons r9 .nil) ⟨_, ys, yv, rfl, rfl, hD9, hz9, q9⟩
       rw [eP, eW, eA, eXe] at ap
       exact thn ap fun _ s10 ⟨_, H10, I10, _, q10⟩ => again I10 (hNn _ _ _ q10)
 subst hs3
 exact codeAny_compStart_list loop (T.self _ 0 _ _ _ st1 loop)
theorem pe_compG {G : Cx → Prop} (hc : ∀ C s H fp, G (cxComp X N scope C s H fp)) (S : CompScope X.N X.env.scope N nv js scope) (hi : PIG G X tg iter wi) (hg : ∀ C s H fp, PG (cxComp X N scope C s H fp) tg g) (ht : ∀ C s H fp, PIfs (cxComp X N scope C s H fp) ifs tt)
   (he : ∀ C s H fp, PE (cxComp X N scope C s H fp) elt te) (hs : ∀ x, foldedSetIterable iter X.env x = pure x := by intro _; rfl) :
   PE X (.ListComp elt [⟨tg, iter, ifs, 0⟩] scope pos) (tComp wi g tt te nv js) := by
 intro pins s σ H Q I h
 rw [eval_ListComp]
 refine wpAny_comprehension_free (use := none) rfl hs (closureFor_eq fun n hn => I.ok.has n (S.free _ hn rfl)) S.kind S.loc (thn (hi pins s σ H _ I h) fun v s1 h1 => thn h1 fun itv s2 h2 => ?_)
 obtain ⟨it, fp, tn, J, H2, e, I2, T, st2, f2, hR⟩ := h2
 subst e
 refine comp_blockG (RR := fun acc C => compPost (model X.prog X.w) X.A X.xe none (EP X pins σ Q) acc C) hc S hg ht he I2 T st2 f2 hR ?_
 intro D C H' s' m I' fC hn q
 refine ⟨m, hn, fun h' sb => ⟨.ref D, H', ?_, rfl, q⟩⟩
 exact I'.turned (t' := s'.toks) (fun b o hb e => (sb.2 b hb).trans e) fC.1 fC.2.1 fC.2.2.2.1 fC.2.2.2.2.1 fC.2.2.2.2.2


end
theorem comp_rangeH {ea : Addr} {lo : Int} {n : Nat} {g : TG} {tt : TT} {te : TE} {Q : VK} {D : Addr} {τ : St} {H : Hp} (Pv : Nat → List V → St → Hp → Prop) (h0 : Pv 0 [] τ (upd H D (.lst [])))
   (hl : ∀ i ys τ H, i ≤ n → Pv i ys τ H → H D = some (.lst ys))
   (hs : ∀ i ys τ H, i < n → Pv i ys τ H → g (.int (lo + i)) τ H fun τ2 H2 => tt τ2 H2 fun b H3 => if b = true then te τ2 H3 fun y H4 => H4 D = some (.lst ys) ∧ ys.length < sizeLine ∧ Pv (i + 1) (ys ++ [y]) τ2 (upd H4 D (.lst (ys ++ [y]))) else Pv (i + 1) ys τ2 H3)
   (hd : ∀ ys τ H, Pv n ys τ H → (∃ C od, H ea = some (xcO ea C od)) ∧ Q (.ref D) H) :
   CompR (ItrH ea lo n) g tt te Q D τ H := by
 refine ⟨fun i m ys τ H => m = n - i ∧ i ≤ n ∧ Pv i ys τ H, ⟨n, by simp, Nat.zero_le _, h0⟩, ?_⟩
 rintro i m ys τ H ⟨rfl, hi, p⟩
 refine ⟨hl i ys τ H hi p, ?_⟩
 by_cases hlt : i < n
 · refine .inr ⟨hlt, Pv (i + 1), fun zs σ' H' p' => ⟨n - (i + 1), by omega, rfl, hlt, p'⟩, fun x H' y => ?_⟩
   obtain ⟨e, y⟩ := y
   subst e y
   exact hs i ys τ _ hlt p
 · have e : i = n := by omega
   subst e
   exact .inl ⟨⟨Nat.le_refl _, (hd ys τ H p).1⟩, (hd ys τ H p).2⟩
end L2

set_option Elab.async false
set_option linter.all false
set_option maxRecDepth 100000
set_option maxHeartbeats 4000000
namespace L2
open PySem PySem.Spec PyProof.Rows
theorem passN {P : Program} {w : World} {X : Cx} : Passes (CXe P w) X E0 := fun _ _ _ _ _ _ _ h => by
 obtain ⟨_, _, _, _, _, _, _, _, _, _, h⟩ := h
 exact h.elim
end L2

set_option Elab.async false
set_option linter.all false
set_option maxRecDepth 100000
set_option maxHeartbeats 4000000
namespace L2
open PySem PySem.Spec PyProof.Rows
section
variable {X : Cx} {K : PySem.W.Frag}
end
end L2

set_option Elab.async false
set_option linter.all false
set_option maxRecDepth 100000
set_option maxHeartbeats 4000000
namespace L2
open PySem PySem.Spec PyProof.Rows
section
variable {X : Cx}
end
end L2

set_option Elab.async false
set_option linter.all false
namespace L2
open PySem
theorem rdT {A B : Prop} {b : Bool} (hb : b = true) (h : A) : if b = true then A else B := by rw [if_pos hb]; exact h
theorem rdF {A B : Prop} {b : Bool} (hb : b = false) (h : B) : if b = true then A else B := by rw [if_neg (by rw [hb]; decide)]; exact h
theorem rdD {p A B : Prop} [Decidable p] (hp : p) (h : A) : if decide p = true then A else B := rdT (decide_eq_true hp) h
theorem rdDn {p A B : Prop} [Decidable p] (hp : ¬ p) (h : B) : if decide p = true then A else B := rdF (decide_eq_false hp) h
theorem rdN {p A B : Prop} [Decidable p] (hp : p) (h : B) : if (!decide p) = true then A else B := rdF (by rw [decide_eq_true hp]; rfl) h
theorem rdNn {p A B : Prop} [Decidable p] (hp : ¬ p) (h : A) : if (!decide p) = true then A else B := rdT (by rw [decide_eq_false hp]; rfl) h
theorem rdI {A B : Prop} {a b : Int} (hp : a = b) (h : A) : if decide (V.int a = V.int b) = true then A else B := rdD (by rw [hp]) h
theorem rdIn {A B : Prop} {a b : Int} (hp : ¬ a = b) (h : B) : if decide (V.int a = V.int b) = true then A else B := rdDn (fun e => hp (V.int.inj e)) h
theorem rdJ {A B : Prop} {a b : Int} (hp : a = b) (h : B) : if (!decide (V.int a = V.int b)) = true then A else B := rdN (by rw [hp]) h
theorem rdJn {A B : Prop} {a b : Int} (hp : ¬ a = b) (h : A) : if (!decide (V.int a = V.int b)) = true then A else B := rdNn (fun e => hp (V.int.inj e)) h
theorem rd2i {A B : Prop} {a b : Int} (h1 : a = b → A) (h2 : ¬ a = b → B) : if decide (V.int a = V.int b) = true then A else B := by
 by_cases h : a = b
 · exact rdI h (h1 h)
 · exact rdIn h (h2 h)
theorem rd2in {A B : Prop} {a b : Int} (h1 : ¬ a = b → A) (h2 : a = b → B) : if (!decide (V.int a = V.int b)) = true then A else B := by
 by_cases h : a = b
 · exact rdJ h (h2 h)
 · exact rdJn h (h1 h)
end L2

set_option Elab.async false
set_option linter.all false
set_option maxRecDepth 100000
set_option maxHeartbeats 4000000
namespace L2
open PySem PySem.Spec PyProof.Rows PySem.W
def runK {α : Type} (lt : Nat → Nat → Bool) : KasT α → α
 | .ret a => a
 | .ask i j k => runK lt (k (lt i j))
theorem runK_bind {α β : Type} (lt : Nat → Nat → Bool) (f : α → KasT β) : ∀ t : KasT α, runK lt (t.bind f) = runK lt (f (runK lt t))
 | .ret _ => rfl
 | .ask i j k => runK_bind lt f (k (lt i j))
section
variable (key : Nat → Int)
def gk (p : Array Nat) (i : Nat) : Int := key (p.getD i 0)
abbrev ltk : Nat → Nat → Bool := fun i j => decide (key i < key j)
def Asc (p : Array Nat) (m : Nat) : Prop := ∀ i j, i < j → j < m → gk key p i < gk key p j
def Inj (p : Array Nat) : Prop := (p.toList.map key).Nodup
theorem gk_at {p : Array Nat} {i : Nat} (h : i < p.size) : gk key p i = key p[i] := by
 unfold gk
 rw [Array.getD_eq_getD_getElem?, Array.getElem?_eq_getElem h]; rfl
theorem inj_ne {p : Array Nat} (h : Inj key p) {i j : Nat} (hij : i < j) (hj : j < p.size) : gk key p i ≠ gk key p j := by
 have hi : i < p.size := by omega
 have q := List.pairwise_iff_getElem.mp h i j (by simpa using hi) (by simpa using hj) hij
 rw [gk_at key hi, gk_at key hj]
 simpa using q
theorem perm_inj {p q : Array Nat} (hp : q.Perm p) (hI : Inj key p) : Inj key q := ((Array.perm_iff_toList_perm.mp hp).map key).nodup_iff.mpr hI
theorem gk_congr {p q : Array Nat} {i j : Nat} (h : p[i]? = q[j]?) : gk key p i = gk key q j := by
 unfold gk
 rw [Array.getD_eq_getD_getElem?, Array.getD_eq_getD_getElem?, h]
theorem asc_of {p : Array Nat} {m : Nat} (h : ∀ i, i + 1 < m → gk key p i < gk key p (i + 1)) : Asc key p m := by
 intro i j hij hj
 obtain ⟨d, rfl⟩ : ∃ d, j = i + 1 + d := ⟨j - (i + 1), by omega⟩
 induction d with
 | zero => exact h i hj
 | succ d ih => exact Int.lt_trans (ih (by omega) (by omega)) (h (i + 1 + d) (by omega))
theorem run_asc {p : Array Nat} (hI : Inj key p) : ∀ (f n : Nat), 1 ≤ n → n + f ≤ p.size → Asc key p n → Asc key p (runK (ltk key) (kas_asc p f n)) ∧ n ≤ runK (ltk key) (kas_asc p f n) ∧ runK (ltk key) (kas_asc p f n) ≤ n + f ∧ (runK (ltk key) (kas_asc p f n) < n + f → gk key p (runK (ltk key) (kas_asc p f n)) < gk key p (runK (ltk key) (kas_asc p f n) - 1))
 | 0, n, _, _, h => ⟨h, Nat.le_refl _, Nat.le_refl _, fun q => absurd q (Nat.lt_irrefl _)⟩
 | f + 1, n, h1, hs, h => by
   show Asc key p (runK (ltk key) (if ltk key (p.getD n 0) (p.getD (n - 1) 0) = true then .ret n else kas_asc p f (n + 1))) ∧ _
   have e : runK (ltk key) (kas_asc p (f + 1) n) = runK (ltk key) (if ltk key (p.getD n 0) (p.getD (n - 1) 0) = true then .ret n else kas_asc p f (n + 1)) := rfl
   rw [e]
   by_cases hc : gk key p n < gk key p (n - 1)
   have hT : ltk key (p.getD n 0) (p.getD (n - 1) 0) = true := decide_eq_true hc
   rotate_left
   have hF : ¬ ltk key (p.getD n 0) (p.getD (n - 1) 0) = true := fun q => hc (of_decide_eq_true q)
   rotate_left
   · rw [if_pos hT]
     exact ⟨h, Nat.le_refl _, by show n ≤ n + (f + 1); omega, fun _ => hc⟩
   · rw [if_neg hF]
     have h2 : Asc key p (n + 1) := by
       refine asc_of key fun i hi => ?_
       by_cases hin : i + 1 < n
       · exact h i (i + 1) (by omega) hin
       · obtain rfl : i = n - 1 := by omega
         rw [show n - 1 + 1 = n from by omega]
         rcases Int.lt_or_lt_of_ne (inj_ne key hI (show n - 1 < n by omega) (by omega)) with q | q
         · exact q
         · exact absurd q hc
     obtain ⟨a, b, c, d⟩ := run_asc hI f (n + 1) (by omega) (by omega) h2
     exact ⟨a, by omega, by omega, fun q => d (by omega)⟩
def Dsc (p : Array Nat) (m : Nat) : Prop := ∀ i j, i < j → j < m → gk key p j < gk key p i
theorem run_desc {p : Array Nat} (hI : Inj key p) : ∀ (f n : Nat), 1 ≤ n → n + f ≤ p.size → Dsc key p n → ∃ m, runK (ltk key) (kas_desc f p n 0) = (p, m, 0) ∧ Dsc key p m ∧ n ≤ m ∧ m ≤ n + f
 | 0, n, _, _, h => ⟨n, rfl, h, Nat.le_refl _, Nat.le_refl _⟩
 | f + 1, n, h1, hs, h => by
   have e : runK (ltk key) (kas_desc (f + 1) p n 0) = runK (ltk key) (if ltk key (p.getD n 0) (p.getD (n - 1) 0) = true then (if 0 > 0 then kas_desc f (kas_rev p (n - (0 + 1)) n) (n + 1) 0 else kas_desc f p (n + 1) 0) else .ask (p.getD (n - 1) 0) (p.getD n 0) fun d => if d = true then .ret (p, n, 0) else kas_desc f p (n + 1) (0 + 1)) := rfl
   by_cases hc : gk key p n < gk key p (n - 1)
   have hT : ltk key (p.getD n 0) (p.getD (n - 1) 0) = true := decide_eq_true hc
   rotate_left
   have hF : ¬ ltk key (p.getD n 0) (p.getD (n - 1) 0) = true := fun q => hc (of_decide_eq_true q)
   rotate_left
   · rw [e, if_pos hT, if_neg (by decide)]
     have h2 : Dsc key p (n + 1) := by
       intro i j hij hj
       by_cases hjn : j < n
       · exact h i j hij hjn
       · obtain rfl : j = n := by omega
         by_cases hi : i = j - 1
         · rw [hi]; exact hc
         · exact Int.lt_trans hc (h i (j - 1) (by omega) (by omega))
     obtain ⟨m, a, b, c, d⟩ := run_desc hI f (n + 1) (by omega) (by omega) h2
     exact ⟨m, a, b, by omega, by omega⟩
   · rw [e, if_neg hF]
     refine ⟨n, ?_, h, Nat.le_refl _, by omega⟩
     show runK (ltk key) (if ltk key (p.getD (n - 1) 0) (p.getD n 0) = true then .ret (p, n, 0) else kas_desc f p (n + 1) (0 + 1)) = _
     rw [if_pos]
     · rfl
     · refine decide_eq_true ?_
       rcases Int.lt_or_lt_of_ne (inj_ne key hI (show n - 1 < n by omega) (by omega)) with q | q
       · exact q
       · exact absurd q hc
theorem gk_rev {p : Array Nat} {m : Nat} (hm : m ≤ p.size) (i : Nat) : gk key (kas_rev p 0 m) i = if i < m then gk key p (m - 1 - i) else gk key p i := by
 have e := getElem?_mirror_all (i := 0) hm i
 by_cases h : i < m
 · rw [if_pos h]
   rw [if_pos ⟨Nat.zero_le _, h⟩] at e
   exact gk_congr key (by rw [show m - 1 - i = 0 + m - 1 - i from by omega]; exact e)
 · rw [if_neg h]
   rw [if_neg (fun q => h q.2)] at e
   exact gk_congr key e
theorem run_tail3 {p : Array Nat} (hI : Inj key p) {m : Nat} (h1 : 1 ≤ m) (hm : m ≤ p.size) (hD : Dsc key p m) : ∃ k q, runK (ltk key) (kas_tail3 m p.size p) = (k, q) ∧ q.Perm p ∧ Asc key q k ∧ 1 ≤ k ∧ k ≤ p.size := by
 have hp : (kas_rev p 0 m).Perm p := mirror_perm _ _ _ _
 have hs : (kas_rev p 0 m).size = p.size := mirror_size _ _ _ _
 have hA : Asc key (kas_rev p 0 m) m := by
   intro i j hij hj
   rw [gk_rev key hm, gk_rev key hm, if_pos (by omega), if_pos hj]
   exact hD _ _ (by omega) (by omega)
 obtain ⟨a, b, c, _⟩ := run_asc key (perm_inj key hp hI) (p.size - m) m h1 (by rw [hs]; omega) hA
 refine ⟨_, _, ?_, hp, a, by omega, by omega⟩
 show runK (ltk key) ((kas_asc (kas_rev p 0 m) (p.size - m) m).bind fun m' => .ret (m', kas_rev p 0 m)) = _
 rw [runK_bind]
 rfl
theorem run_count {p : Array Nat} (hI : Inj key p) (h2 : 2 ≤ p.size) : ∃ k q, runK (ltk key) (kas_count p.size p) = (k, q) ∧ q.Perm p ∧ Asc key q k ∧ 1 ≤ k ∧ k ≤ p.size := by
 have hA1 : Asc key p 1 := fun i j hij hj => by omega
 obtain ⟨a, b, c, d⟩ := run_asc key hI (p.size - 1) 1 (Nat.le_refl _) (by omega) hA1
 unfold kas_count
 rw [runK_bind]
 generalize runK (ltk key) (kas_asc p (p.size - 1) 1) = n at a b c d
 by_cases e1 : n = p.size
 · rw [if_pos (by rw [e1]; exact beq_self_eq_true _)]
   exact ⟨n, p, rfl, Array.Perm.refl _, a, b, by omega⟩
 rw [if_neg (fun q => e1 (by simpa using q))]
 by_cases e2 : n > 1
 · rw [if_pos e2]
   have hT : ltk key (p.getD 0 0) (p.getD (n - 1) 0) = true := decide_eq_true (a 0 (n - 1) (by omega) (by omega))
   show ∃ k q, runK (ltk key) (if ltk key (p.getD 0 0) (p.getD (n - 1) 0) = true then .ret (n, p) else kas_descPart n p.size (kas_rev p 0 n)) = (k, q) ∧ _
   rw [if_pos hT]
   exact ⟨n, p, rfl, Array.Perm.refl _, a, b, by omega⟩
 rw [if_neg e2]
 obtain rfl : n = 1 := by omega
 have hd := d (by omega)
 have hD2 : Dsc key p 2 := fun i j hij hj => by
   obtain rfl : i = 0 := by omega
   obtain rfl : j = 1 := by omega
   exact hd
 obtain ⟨m, e, hDm, h3, h4⟩ := run_desc key hI (p.size - (1 + 1)) (1 + 1) (by omega) (by omega) hD2
 unfold kas_descPart
 rw [runK_bind, e]
 show ∃ k q, runK (ltk key) (if 0 > 0 then _ else kas_tail3 m p.size p) = (k, q) ∧ _
 rw [if_neg (by decide)]
 exact run_tail3 key hI (by omega) (by omega) hDm
theorem run_place {p : Array Nat} (hI : Inj key p) {k : Nat} (hk : k < p.size) (hA : Asc key p k) : ∀ (f l r : Nat), r - l ≤ f → l ≤ r → r ≤ k → (∀ i, i < l → gk key p i < gk key p k) → (∀ i, r ≤ i → i < k → gk key p k < gk key p i) →
   runK (ltk key) (kas_place p k f l r) ≤ k ∧ (∀ i, i < runK (ltk key) (kas_place p k f l r) → gk key p i < gk key p k) ∧ (∀ i, runK (ltk key) (kas_place p k f l r) ≤ i → i < k → gk key p k < gk key p i)
 | 0, l, r, hf, hlr, hr, h1, h2 => by
   obtain rfl : l = r := by omega
   exact ⟨hr, h1, h2⟩
 | f + 1, l, r, hf, hlr, hr, h1, h2 => by
   have e : kas_place p k (f + 1) l r = if l ≥ r then .ret l else .ask (p.getD k 0) (p.getD ((l + r) / 2) 0) fun c => if c = true then kas_place p k f l ((l + r) / 2) else kas_place p k f ((l + r) / 2 + 1) r := rfl
   rw [e]
   by_cases hle : l ≥ r
   · rw [if_pos hle]
     obtain rfl : l = r := by omega
     exact ⟨hr, h1, h2⟩
   rw [if_neg hle]
   have hm : (l + r) / 2 < r := by omega
   have hm2 : l ≤ (l + r) / 2 := by omega
   generalize (l + r) / 2 = mid at hm hm2
   show _ ≤ _ ∧ _
   have e2 : runK (ltk key) (KasT.ask (p.getD k 0) (p.getD mid 0) fun c => if c = true then kas_place p k f l mid else kas_place p k f (mid + 1) r) = runK (ltk key) (if ltk key (p.getD k 0) (p.getD mid 0) = true then kas_place p k f l mid else kas_place p k f (mid + 1) r) := rfl
   rw [e2]
   by_cases hc : gk key p k < gk key p mid
   · rw [if_pos (show ltk key (p.getD k 0) (p.getD mid 0) = true from decide_eq_true hc)]
     refine run_place hI hk hA f l mid (by omega) hm2 (by omega) h1 fun i hi hik => ?_
     by_cases him : i = mid
     · rw [him]; exact hc
     · exact Int.lt_trans hc (hA mid i (by omega) hik)
   · rw [if_neg (show ¬ ltk key (p.getD k 0) (p.getD mid 0) = true from fun q => hc (of_decide_eq_true q))]
     have hc2 : gk key p mid < gk key p k := by
       rcases Int.lt_or_lt_of_ne (inj_ne key hI (show mid < k by omega) hk) with q | q
       · exact q
       · exact absurd q hc
     refine run_place hI hk hA f (mid + 1) r (by omega) (by omega) hr (fun i hi => ?_) h2
     by_cases him : i = mid
     · rw [him]; exact hc2
     · exact Int.lt_trans (hA i mid (by omega) (by omega)) hc2
theorem gk_bubble {p : Array Nat} {k l : Nat} (hk : k < p.size) (hl : l ≤ k) (i : Nat) : gk key (bubble p k (k - l)) i = if i = l then gk key p k else if l < i ∧ i ≤ k then gk key p (i - 1) else gk key p i := by
 have e := getElem?_bubble hk (k - l) (by omega) i
 rw [show k - (k - l) = l from by omega] at e
 by_cases h1 : i = l
 · rw [if_pos h1] at e ⊢; exact gk_congr key e
 · rw [if_neg h1] at e ⊢
   by_cases h2 : l < i ∧ i ≤ k
   · rw [if_pos h2] at e ⊢; exact gk_congr key e
   · rw [if_neg h2] at e ⊢; exact gk_congr key e
theorem run_bin : ∀ (f : Nat) {p : Array Nat} {k : Nat}, Inj key p → k + f = p.size → Asc key p k → ∃ q, runK (ltk key) (kas_bin f p k) = q ∧ q.Perm p ∧ Asc key q p.size
 | 0, p, k, hI, hk, hA => ⟨p, rfl, Array.Perm.refl _, by rw [← hk]; exact hA⟩
 | f + 1, p, k, hI, hk, hA => by
   obtain ⟨h1, h2, h3⟩ := run_place key hI (show k < p.size by omega) hA k 0 k (by omega) (Nat.zero_le _) (Nat.le_refl _) (fun i hi => by omega) (fun i hi hik => by omega)
   show ∃ q, runK (ltk key) ((kas_place p k k 0 k).bind fun l => kas_bin f (bubble p k (k - l)) (k + 1)) = q ∧ _
   rw [runK_bind]
   generalize runK (ltk key) (kas_place p k k 0 k) = l at h1 h2 h3
   have hp : (bubble p k (k - l)).Perm p := bubble_perm _ _ _
   have hs : (bubble p k (k - l)).size = p.size := bubble_size _ _ _
   have hA2 : Asc key (bubble p k (k - l)) (k + 1) := by
     intro i j hij hj
     have g := fun i => gk_bubble key (show k < p.size by omega) h1 i
     rw [g i, g j]
     by_cases a1 : i = l
     · rw [if_pos a1, if_neg (by omega), if_pos ⟨by omega, by omega⟩]
       exact h3 _ (by omega) (by omega)
     · rw [if_neg a1]
       by_cases a2 : l < i ∧ i ≤ k
       · rw [if_pos a2, if_neg (by omega), if_pos ⟨by omega, by omega⟩]
         exact hA _ _ (by omega) (by omega)
       · rw [if_neg a2]
         have hil : i < l := by omega
         by_cases b1 : j = l
         · rw [if_pos b1]; exact h2 i hil
         · rw [if_neg b1]
           by_cases b2 : l < j ∧ j ≤ k
           · rw [if_pos b2]; exact hA _ _ (by omega) (by omega)
           · rw [if_neg b2]; exact hA _ _ hij (by omega)
   obtain ⟨q, e, hq, hqA⟩ := run_bin f (perm_inj key hp hI) (by rw [hs]; omega) hA2
   exact ⟨q, e, hq.trans hp, by rw [← hs]; exact hqA⟩
theorem run_sort {n : Nat} (h2 : 2 ≤ n) (hI : ((List.range n).map key).Nodup) : ∃ q : Array Nat, runK (ltk key) (kas_sort n) = q ∧ q.toList.Perm (List.range n) ∧ (q.toList.map key).Pairwise (· < ·) := by
 have hI0 : Inj key (List.toArray (List.range n)) := by unfold Inj; simpa using hI
 have hz : (List.toArray (List.range n)).size = n := by simp
 obtain ⟨k, p, e, hp, hA, h1, hk⟩ := run_count key hI0 (by rw [hz]; exact h2)
 have hs : p.size = n := by rw [hp.size_eq, hz]
 have fin : ∀ q : Array Nat, q.Perm p → Asc key q n → q.toList.Perm (List.range n) ∧ (q.toList.map key).Pairwise (· < ·) := fun q hq hqA => by
   have hqs : q.size = n := by rw [hq.size_eq, hs]
   refine ⟨?_, ?_⟩
   · have := Array.perm_iff_toList_perm.mp (hq.trans hp)
     simpa using this
   · refine List.pairwise_iff_getElem.mpr fun i j hi hj hij => ?_
     have hi' : i < q.size := by simpa using hi
     have hj' : j < q.size := by simpa using hj
     have := hqA i j hij (by omega)
     rw [gk_at key hi', gk_at key hj'] at this
     simpa using this
 unfold kas_sort
 rw [runK_bind]
 rw [hz] at e hk
 rw [e]
 show ∃ q, runK (ltk key) (if k < n then kas_bin (n - max k 1) p (max k 1) else .ret p) = q ∧ _
 by_cases hkn : k < n
 · rw [if_pos hkn, show max k 1 = k from by omega]
   obtain ⟨q, e2, hq, hqA⟩ := run_bin key (n - k) (perm_inj key hp hI0) (show k + (n - k) = p.size by omega) hA
   exact ⟨q, e2, fin q hq (by rw [← hs]; exact hqA)⟩
 · rw [if_neg hkn]
   obtain rfl : k = n := by omega
   exact ⟨p, rfl, fin p (Array.Perm.refl _) hA⟩
end
def InR {α : Type} (n : Nat) (R : α → Prop) : KasT α → Prop
 | .ret a => R a
 | .ask i j k => i < n ∧ j < n ∧ ∀ b, InR n R (k b)
theorem inR_bind {α β : Type} {n : Nat} {R : α → Prop} {R' : β → Prop} {f : α → KasT β} : ∀ {t : KasT α}, InR n R t → (∀ a, R a → InR n R' (f a)) → InR n R' (t.bind f)
 | .ret a, h, hf => hf a h
 | .ask _ _ _, ⟨h1, h2, h3⟩, hf => ⟨h1, h2, fun b => inR_bind (h3 b) hf⟩
def Sml (n : Nat) (p : Array Nat) : Prop := ∀ x ∈ p.toList, x < n
theorem sml_at {n : Nat} (h0 : 0 < n) {p : Array Nat} (h : Sml n p) (i : Nat) : p.getD i 0 < n := by
 rw [Array.getD_eq_getD_getElem?]
 cases e : p[i]? with
 | none => exact h0
 | some x => exact h x (by rw [← Array.getElem?_toList] at e; exact List.mem_of_getElem? e)
theorem sml_perm {n : Nat} {p q : Array Nat} (hp : q.Perm p) (h : Sml n p) : Sml n q := fun x hx => h x ((Array.perm_iff_toList_perm.mp hp).mem_iff.mp hx)
theorem in_asc {n : Nat} (h0 : 0 < n) {p : Array Nat} (h : Sml n p) : ∀ f m, InR n (fun _ => True) (kas_asc p f m)
 | 0, m => trivial
 | f + 1, m => ⟨sml_at h0 h _, sml_at h0 h _, fun b => by
   show InR n _ (if b = true then .ret m else kas_asc p f (m + 1))
   split
   · exact trivial
   · exact in_asc h0 h f (m + 1)⟩
theorem in_desc {n : Nat} (h0 : 0 < n) : ∀ f {p : Array Nat} (m q : Nat), Sml n p → InR n (fun r => Sml n r.1) (kas_desc f p m q)
 | 0, p, m, q, h => h
 | f + 1, p, m, q, h => ⟨sml_at h0 h _, sml_at h0 h _, fun b => by
   show InR n _ (if b = true then (if q > 0 then kas_desc f (kas_rev p (m - (q + 1)) m) (m + 1) 0 else kas_desc f p (m + 1) 0) else .ask (p.getD (m - 1) 0) (p.getD m 0) fun d => if d = true then .ret (p, m, q) else kas_desc f p (m + 1) (q + 1))
   split
   · split
     · exact in_desc h0 f _ _ (sml_perm (mirror_perm _ _ _ _) h)
     · exact in_desc h0 f _ _ h
   · refine ⟨sml_at h0 h _, sml_at h0 h _, fun d => ?_⟩
     show InR n _ (if d = true then .ret (p, m, q) else kas_desc f p (m + 1) (q + 1))
     split
     · exact h
     · exact in_desc h0 f _ _ h⟩
theorem in_tail3 {n : Nat} (h0 : 0 < n) {p : Array Nat} (h : Sml n p) (m k : Nat) : InR n (fun r => Sml n r.2) (kas_tail3 m k p) :=
 inR_bind (in_asc h0 (sml_perm (mirror_perm _ _ _ _) h) _ _) fun a _ => sml_perm (mirror_perm _ _ _ _) h
theorem in_descPart {n : Nat} (h0 : 0 < n) {p : Array Nat} (h : Sml n p) (m k : Nat) : InR n (fun r => Sml n r.2) (kas_descPart m k p) :=
 inR_bind (in_desc h0 _ _ _ h) fun r hr => by
   show InR n _ (if r.2.2 > 0 then kas_tail3 r.2.1 k (kas_rev r.1 (r.2.1 - (r.2.2 + 1)) r.2.1) else kas_tail3 r.2.1 k r.1)
   split
   · exact in_tail3 h0 (sml_perm (mirror_perm _ _ _ _) hr) _ _
   · exact in_tail3 h0 hr _ _
theorem in_count {n : Nat} (h0 : 0 < n) {p : Array Nat} (h : Sml n p) (k : Nat) : InR n (fun r => Sml n r.2) (kas_count k p) :=
 inR_bind (in_asc h0 h _ _) fun m _ => by
   show InR n _ (if (m == k) = true then .ret (m, p) else if m > 1 then .ask (p.getD 0 0) (p.getD (m - 1) 0) fun c => if c = true then .ret (m, p) else kas_descPart m k (kas_rev p 0 m) else kas_descPart m k p)
   split
   · exact h
   · split
     · refine ⟨sml_at h0 h _, sml_at h0 h _, fun c => ?_⟩
       show InR n _ (if c = true then .ret (m, p) else kas_descPart m k (kas_rev p 0 m))
       split
       · exact h
       · exact in_descPart h0 (sml_perm (mirror_perm _ _ _ _) h) _ _
     · exact in_descPart h0 h _ _
theorem in_place {n : Nat} (h0 : 0 < n) {p : Array Nat} (h : Sml n p) (k : Nat) : ∀ f l r, InR n (fun _ => True) (kas_place p k f l r)
 | 0, l, r => trivial
 | f + 1, l, r => by
   show InR n _ (if l ≥ r then .ret l else .ask (p.getD k 0) (p.getD ((l + r) / 2) 0) fun c => if c = true then kas_place p k f l ((l + r) / 2) else kas_place p k f ((l + r) / 2 + 1) r)
   split
   · exact trivial
   · refine ⟨sml_at h0 h _, sml_at h0 h _, fun c => ?_⟩
     show InR n _ (if c = true then kas_place p k f l ((l + r) / 2) else kas_place p k f ((l + r) / 2 + 1) r)
     split
     · exact in_place h0 h k f _ _
     · exact in_place h0 h k f _ _
theorem in_bin {n : Nat} (h0 : 0 < n) : ∀ f {p : Array Nat} (k : Nat), Sml n p → InR n (fun _ => True) (kas_bin f p k)
 | 0, p, k, h => trivial
 | f + 1, p, k, h => inR_bind (in_place h0 h k _ _ _) fun l _ => in_bin h0 f _ (sml_perm (bubble_perm _ _ _) h)
theorem in_sort {n : Nat} (h0 : 0 < n) : InR n (fun _ => True) (kas_sort n) :=
 inR_bind (in_count h0 (fun x hx => by simpa using hx) _) fun r hr => by
   show InR n _ (if r.1 < n then kas_bin (n - max r.1 1) r.2 (max r.1 1) else .ret r.2)
   split
   · exact in_bin h0 _ _ hr
   · exact trivial
theorem kasWp_run {α : Type} {n : Nat} {R : α → Prop} {cmp : Nat → Nat → (Bool → Shared → Prop) → Shared → Prop} {lt : Nat → Nat → Bool} {s : Shared} (hc : ∀ i j (C : Bool → Shared → Prop), i < n → j < n → C (lt i j) s → cmp i j C s) {Q : α → Shared → Prop} : ∀ (t : KasT α), InR n R t → Q (runK lt t) s → t.kasWp cmp Q s
 | .ret _, _, h => h
 | .ask i j k, ⟨h1, h2, h3⟩, h => hc i j _ h1 h2 (kasWp_run hc (k (lt i j)) (h3 _) h)
end L2

set_option Elab.async false
set_option linter.all false
set_option maxRecDepth 100000
set_option maxHeartbeats 4000000
namespace L2
open PySem PySem.Spec PyProof.Rows PySem.W
section
variable {prog : Program} {w : World} {A : Around} {s : Shared} {Q : Bool → Shared → Prop} {fin : Bool}
theorem lex_lt {a1 a2 b1 b2 : Int} {t1 t2 u1 u2 : Tok} {r : List (Value × Value)} (hne : a2 ≠ b2) (h : Q (decide (a1 < b1 ∨ (a1 = b1 ∧ a2 < b2))) s) :
   KatLex prog w A true fin Q ((.int a1 t1, .int b1 u1) :: (.int a2 t2, .int b2 u2) :: r) 0 s := by
 refine kat_cons ?_
 refine (eqAt_V (A := A) (s := s) (y := .int a1) (x := .int b1) ⟨_, rfl⟩ ⟨_, rfl⟩ rfl rfl) prog w _ _ ?_
 by_cases e : a1 = b1
 · have e1 : eqV (.int a1) (.int b1) = true := by rw [e]; exact eqV_self rfl
   rw [e1]
   refine kat_yes (kat_cons ?_)
   refine (eqAt_V (A := A) (s := s) (y := .int a2) (x := .int b2) ⟨_, rfl⟩ ⟨_, rfl⟩ rfl rfl) prog w _ _ ?_
   have e2 : eqV (.int a2) (.int b2) = false := by
     show decide _ = false
     exact decide_eq_false hne
   rw [e2]
   refine kat_no (kat_one _ _ (lt_int ?_))
   show Q (decide (a2 < b2)) s
   rw [show decide (a1 < b1 ∨ (a1 = b1 ∧ a2 < b2)) = decide (a2 < b2) from by congr 1; exact propext ⟨fun h => by omega, fun h => .inr ⟨e, h⟩⟩] at h
   exact h
 · have e1 : eqV (.int a1) (.int b1) = false := by
     show decide _ = false
     exact decide_eq_false e
   rw [e1]
   refine kat_no (oneLt_int ?_)
   rw [show decide (a1 < b1 ∨ (a1 = b1 ∧ a2 < b2)) = decide (a1 < b1) from by congr 1; exact propext ⟨fun h => by omega, fun h => .inl h⟩] at h
   exact h
theorem lex_same : ∀ {xs : List Value} {i : Nat}, Q fin s → KatLex prog w A true fin Q (xs.zip xs) i s
 | [], _, h => h
 | x :: xs, i, h => kat_cons (SeqAt.EqAt.same x prog w _ _ (kat_yes (lex_same h)))
end
theorem Inv.laidL {X : Cx} {pins : List (Addr × Obj)} {σ : St} {H : Hp} {s : Shared} {h' : Heap} {D : Addr} {xs : List V} {m : Str → Option Value} (I : Inv X pins σ H s) (hn : s.heap.Ns X.env.locals m) (hn' : h'.Ns X.env.locals m) (kept : ∀ b o, b ≠ X.env.locals → s.heap.get? b = some o → h'.get? b = some o) (hD : s.heap.get? D = none) (new : ObjOk X.prog X.w (upd H D (.lst xs)) h' D (.lst xs)) : H D = none ∧ Inv X pins σ (upd H D (.lst xs)) { s with heap := h' } := by
 have HD : H D = none := by
   cases q : H D with
   | none => rfl
   | some u =>
     obtain ⟨ob, e⟩ := (I.hok D u q).ex
     rw [e] at hD; cases hD
 have neL : ∀ b o, H b = some o → b ≠ X.env.locals := fun b o e z => by rw [z, I.free] at e; cases e
 have ne : ∀ b o, H b = some o → b ≠ D := fun b o e z => by rw [z, HD] at e; cases e
 refine ⟨HD, ?_⟩
 refine I.step (g' := s.gens) (d' := s.drawn) (t' := s.toks) (ch := []) (fun b hb => by cases hb) (fun b o h1 _ _ e _ => kept b o h1 e) (fun b o h1 _ _ e _ => ⟨o.slots, kept b o h1 e⟩) (fun b o _ e n => ?_) (fun b o _ e => ?_) (fun b ys e => by rw [upd_ne (ne _ _ e)]; exact e) (fun b ob u e => by rw [upd_ne (ne _ _ e)]; exact e) (fun b ps e => ⟨#[], by rw [upd_ne (ne _ _ e), e]; simp⟩) (fun m' hm' => ?_) (fun b u e => ?_) I.bare
 · rw [upd_ne (fun z => by rw [z, hD] at e; cases e)]; exact n
 · by_cases hb : b = X.env.locals
   · obtain ⟨o', _, _, e', _⟩ := hn'
     exact ⟨o', by rw [hb]; exact e'⟩
   · exact ⟨o, kept b o hb e⟩
 · obtain ⟨o1, es1, ep1, g1, d1, _, f1⟩ := hn
   obtain ⟨o2, es2, ep2, g2, d2, _, f2⟩ := hm'
   rw [g1] at g2
   cases g2
   rw [d1] at d2
   cases d2
   have em : m' = m := funext fun x => (f2 x).symm.trans (f1 x)
   rw [em]; exact hn'
 · by_cases hb : b = D
   · subst hb
     rw [upd_same] at e
     cases e
     exact new
   · rw [upd_ne hb] at e
     refine (I.hok b u e).stay (fun c v hc q => kept c v ?_ q) (fun c q => by rw [upd_ne (ne _ _ q)]; exact q) (fun c ys q => by rw [upd_ne (ne _ _ q)]; exact q)
     rcases hc with z | z
     · rw [z]; exact neL b u e
     · exact neL c _ z
abbrev T3 := Addr × Int × Int
def enc (t : T3) : Int := t.2.1 * 1000000 + t.2.2
def rSortT (K : PySem.W.Frag) : List V → Hp → VK → Prop := fun xs H Q => ∃ (l : Addr) (ts : List T3), xs = [.ref l] ∧ SqL K H l (ts.map fun t => V.ref t.1) ∧ 2 ≤ ts.length ∧ ts.length < 64 ∧ (∀ t ∈ ts, 0 ≤ t.2.2 ∧ t.2.2 < 1000000 ∧ ∃ r, H t.1 = some (.tup (.int t.2.1 :: .int t.2.2 :: r))) ∧ (ts.map fun t => t.2.2).Nodup ∧
 ∀ us : List T3, us.Perm ts → us.Pairwise (fun x y => enc x < enc y) → ∀ l', H l' = none → Q (.ref l') (upd H l' (.lst (us.map fun t => V.ref t.1)))
theorem vals_t3 : ∀ {ts : List T3} {us : List Value}, Vals (ts.map fun t => V.ref t.1) us → us = ts.map fun t => Value.ref t.1
 | [], _, .nil => rfl
 | t :: ts, _, .cons r q => by cases (show _ = Value.ref t.1 from r); rw [vals_t3 q]; rfl
theorem vals_of_t3 : ∀ (ts : List T3), Vals (ts.map fun t => V.ref t.1) (ts.map fun t => Value.ref t.1)
 | [] => .nil
 | t :: ts => .cons rfl (vals_of_t3 ts)
theorem tups_of {h : Heap} : ∀ {ts : List T3}, (∀ t ∈ ts, ∃ (its : List Value) (t1 t2 : Tok), IsTup h t.1 (Value.int t.2.1 t1 :: Value.int t.2.2 t2 :: its).toArray) → ∃ fs, KatTups h (ts.map fun t => Value.ref t.1) fs ∧ fs.length = ts.length ∧ ∀ v ∈ fs, ∃ n t, v = Value.int n t
 | [], _ => ⟨[], .nil, rfl, fun v hv => by cases hv⟩
 | t :: ts, hh => by
   obtain ⟨fs, k, hl, hv⟩ := tups_of (ts := ts) fun t ht => hh t (List.mem_cons_of_mem _ ht)
   obtain ⟨its, t1, t2, o, ho, hc, n, hd⟩ := hh t (List.mem_cons_self ..)
   refine ⟨.int t.2.1 t1 :: fs, .cons ho hc hd (by simp) k, by simp [hl], fun v hv' => ?_⟩
   rcases List.mem_cons.mp hv' with rfl | hv'
   · exact ⟨_, _, rfl⟩
   · exact hv v hv'
theorem call_sortedT {X : Cx} (K : PySem.W.Frag) (hK : X.K = K) : CallR X (.builtin "sorted") (rSortT K) := by
 subst hK
 intro pins s σ H xs us Q I r h
 obtain ⟨l, ts, rfl, hq, h2, h64, ht, hnd, q⟩ := h
 obtain ⟨u, rfl, ru⟩ := vals1 r
 cases (show u = Value.ref l from ru)
 obtain ⟨its, r1, pl, _⟩ := I.list hq
 obtain rfl := vals_t3 r1
 obtain ⟨m, F⟩ := I.fr
 have N := news_all (g := X.base) (h := s.heap) (L := X.env.locals)
 have hlen : (ts.map fun t => Value.ref t.1).length = ts.length := List.length_map _
 refine kat_sorted F N pl.isList (by rw [hlen]; exact h2) (by rw [hlen]; exact h64) fun D e1 h' F' N' hD => ?_
 have kept : ∀ b o, b ≠ X.env.locals → s.heap.get? b = some o → h'.get? b = some o := fun b o hb e => by
   cases qb : X.base.get? b with
   | some v =>
     have := I.bk b v qb
     rw [e] at this; cases this
     exact F'.keep b _ qb
   | none => exact (N' (b, o) (List.mem_cons_of_mem _ (mem_allNews hb qb e))).1
 have neL : ∀ b o, H b = some o → b ≠ X.env.locals := fun b o e z => by rw [z, I.free] at e; cases e
 have tup : ∀ t ∈ ts, ∃ (its : List Value) (t1 t2 : Tok), IsTup h' t.1 (Value.int t.2.1 t1 :: Value.int t.2.2 t2 :: its).toArray := fun t hm => by
   obtain ⟨_, _, rr, hH⟩ := ht t hm
   obtain ⟨_, vs, rv, o, ho, hc, n, hd⟩ := (show ObjOk X.prog X.w H s.heap t.1 (.tup _) from I.hok t.1 _ hH)
   cases rv with
   | cons ra rv =>
     cases rv with
     | cons rb rv =>
       obtain ⟨t1, rfl⟩ := ra
       obtain ⟨t2, rfl⟩ := rb
       exact ⟨_, t1, t2, o, kept _ _ (neL _ _ hH) ho, hc, n, hd⟩
 obtain ⟨fs, kt, hfl, hfv⟩ := tups_of tup
 refine kat_kind (T := .type "int") kt (by omega) (fun v hv => ?_) rfl ?_
 · obtain ⟨n, t, rfl⟩ := hfv v hv
   exact Looks.of_pure rfl
 rw [show (Value.type "int" != Value.type "tuple") = true from rfl]
 have gd : ∀ i, i < ts.length → (ts.map fun t => Value.ref t.1).getD i Value.none = .ref (ts.getD i (0, 0, 0)).1 := fun i hi => by
   rw [List.getD_eq_getElem?_getD, List.getD_eq_getElem?_getD, List.getElem?_map, List.getElem?_eq_getElem hi]; rfl
 have gm : ∀ i, i < ts.length → ts.getD i (0, 0, 0) ∈ ts := fun i hi => by
   rw [List.getD_eq_getElem?_getD, List.getElem?_eq_getElem hi]; exact List.getElem_mem hi
 have sec : ∀ i j, i < ts.length → j < ts.length → i ≠ j → (ts.getD i (0, 0, 0)).2.2 ≠ (ts.getD j (0, 0, 0)).2.2 := fun i j hi hj hij => by
   have key2 : ∀ i j, i < j → j < ts.length → (ts.getD i (0, 0, 0)).2.2 ≠ (ts.getD j (0, 0, 0)).2.2 := fun i j hij hj => by
     have hi : i < ts.length := by omega
     have := List.pairwise_iff_getElem.mp hnd i j (by simpa using hi) (by simpa using hj) hij
     rw [List.getD_eq_getElem?_getD, List.getD_eq_getElem?_getD, List.getElem?_eq_getElem hi, List.getElem?_eq_getElem hj]
     simpa using this
   rcases Nat.lt_or_gt_of_ne hij with z | z
   · exact key2 i j z hj
   · exact Ne.symm (key2 j i z hi)
 have enc_lt : ∀ i j, i < ts.length → j < ts.length → i ≠ j → (decide (enc (ts.getD i (0, 0, 0)) < enc (ts.getD j (0, 0, 0)))) = decide ((ts.getD i (0, 0, 0)).2.1 < (ts.getD j (0, 0, 0)).2.1 ∨ ((ts.getD i (0, 0, 0)).2.1 = (ts.getD j (0, 0, 0)).2.1 ∧ (ts.getD i (0, 0, 0)).2.2 < (ts.getD j (0, 0, 0)).2.2)) := fun i j hi hj hij => by
   obtain ⟨a1, a2, _⟩ := ht _ (gm i hi)
   obtain ⟨b1, b2, _⟩ := ht _ (gm j hj)
   congr 1
   unfold enc
   exact propext ⟨fun h => by omega, fun h => by omega⟩
 have hkn : ((List.range ts.length).map fun i => enc (ts.getD i (0, 0, 0))).Nodup := by
   refine List.pairwise_iff_getElem.mpr fun i j hi hj hij => ?_
   have hi' : i < ts.length := by simpa using hi
   have hj' : j < ts.length := by simpa using hj
   have hs := sec i j hi' hj' (by omega)
   obtain ⟨a1, a2, _⟩ := ht _ (gm i hi')
   obtain ⟨b1, b2, _⟩ := ht _ (gm j hj')
   rw [List.getElem_map, List.getElem_map, List.getElem_range, List.getElem_range]
   unfold enc
   omega
 obtain ⟨p, ep, hp, hpw⟩ := run_sort (fun i => enc (ts.getD i (0, 0, 0))) h2 hkn
 rw [hlen]
 refine kasWp_run (n := ts.length) (R := fun _ => True) (lt := ltk fun i => enc (ts.getD i (0, 0, 0))) (fun i j C hi hj hC => ?_) _ (in_sort (by omega)) ?_
 · show wpAny _ _ (keyLt' _ ((ts.map fun t => Value.ref t.1).getD i Value.none) ((ts.map fun t => Value.ref t.1).getD j Value.none)) C _ _
   rw [gd i hi, gd j hj]
   obtain ⟨iti, t1, t2, oi, hoi, hci, ni, hdi⟩ := tup _ (gm i hi)
   by_cases hij : i = j
   · subst hij
     refine kat_lt hoi hdi hoi hdi (lex_same ?_)
     have e0 : ltk (fun i => enc (ts.getD i (0, 0, 0))) i i = false := decide_eq_false (Int.lt_irrefl _)
     rw [e0] at hC
     rw [decide_eq_false (Nat.lt_irrefl _)]
     exact hC
   · obtain ⟨itj, u1, u2, oj, hoj, hcj, nj, hdj⟩ := tup _ (gm j hj)
     refine kat_lt hoi hdi hoj hdj (lex_lt (sec i j hi hj hij) ?_)
     have hC : C (decide (enc (ts.getD i (0, 0, 0)) < enc (ts.getD j (0, 0, 0)))) _ := hC
     rw [enc_lt i j hi hj hij] at hC
     exact hC
 rw [ep]
 have hpm : ∀ i ∈ p.toList, i < ts.length := fun i hi => List.mem_range.mp (hp.mem_iff.mp hi)
 have out : (p.toList.map fun i => (ts.map fun t => Value.ref t.1).getD i Value.none) = (p.toList.map fun i => ts.getD i (0, 0, 0)).map fun t => Value.ref t.1 := by
   rw [List.map_map]
   exact List.map_congr_left fun i hi => gd i (hpm i hi)
 rw [out]
 have hus : (p.toList.map fun i => ts.getD i (0, 0, 0)).Perm ts := by
   have e : (List.range ts.length).map (fun i => ts.getD i (0, 0, 0)) = ts := by
     refine List.ext_getElem (by simp) fun i h1 h2 => ?_
     rw [List.getElem_map, List.getElem_range, List.getD_eq_getElem?_getD, List.getElem?_eq_getElem h2]; rfl
   have := hp.map fun i => ts.getD i (0, 0, 0)
   rw [e] at this
   exact this
 have hupw : (p.toList.map fun i => ts.getD i (0, 0, 0)).Pairwise fun x y => enc x < enc y := by
   rw [List.pairwise_map] at hpw ⊢
   exact hpw
 have hulen := hus.length_eq
 generalize (p.toList.map fun i => ts.getD i (0, 0, 0)) = us at hus hupw hulen
 refine KasFin.intro F' N' (.head fun q hq => Nat.ne_of_lt (hD q hq)) fun h3 c F3 N3 => ?_
 have kept3 : ∀ b o, b ≠ X.env.locals → s.heap.get? b = some o → h3.get? b = some o := fun b o hb e => by
   cases qb : X.base.get? b with
   | some v =>
     have := I.bk b v qb
     rw [e] at this; cases this
     exact F3.keep b _ qb
   | none => exact (N3 (b, o) (List.mem_cons_of_mem _ (mem_allNews hb qb e))).1
 have hDo := (N3 (D, _) (List.mem_cons_self ..)).1
 have hDn : s.heap.get? D = none := by
   cases e : s.heap.get? D with
   | none => rfl
   | some o =>
     have z := N' (D, _) (List.mem_cons_self ..)
     exact absurd (hD (D, o) (mem_allNews z.2.1 z.2.2 e)) (Nat.lt_irrefl _)
 obtain ⟨HD, I3⟩ := I.laidL (xs := us.map fun t => V.ref t.1) F.ns F3.ns kept3 hDn ⟨by rw [List.length_map, hulen]; exact Nat.le_trans (Nat.le_of_lt h64) (by decide), us.map fun t => Value.ref t.1, c, vals_of_t3 us, hDo⟩
 exact ⟨.ref D, _, I3, rfl, q us hus hupw D HD⟩
end L2

set_option Elab.async false
set_option linter.all false
set_option maxRecDepth 100000
set_option maxHeartbeats 4000000
namespace L2
open PySem PySem.Spec PyProof.Rows PySem.W
section
variable {prog : Program} {w : World} {A : Around} {E : Value → Shared → Prop} {s : Shared}
theorem sort_few {a : Addr} {vs : List Value} {n : Nat} {P : PySem.Fin → Shared → Prop} (ho : s.heap.get? a = some (seqObj "list" vs.toArray n)) (h2 : vs.length < 2)
   (h : P (.done (.ret .none)) { s with heap := sortedHeap s.heap a vs vs.toArray }) : wpAny (model prog w) A (Builtin.«list.sort» ⟨[.ref a], []⟩) P E s := by
 have ha : a < s.heap.objs.size := Heap.lt_size ho
 obtain ⟨e1, ho1⟩ : ∃ e1, (s.heap.update a (Obj.mapSeq fun _ => (#[] : Array Value))).get? a = some (seqObj "list" #[] e1) := ⟨_, get?_update_seq ho fun _ => #[]⟩
 rw [list_sort_plain]
 refine wpAny_bind (listItems_at ho rfl ?_)
 refine wpAny_bind (listUpdate_at ho rfl ?_ (by rw [List.size_toArray, sizeLine_eq]; omega) (Nat.zero_le _))
 refine wpAny_bind (seqEpoch_at ho1 rfl ?_)
 refine wpAny_bind (wpAny_newTuple ?_ (by show vs.length ≤ _; rw [sizeLine_eq]; omega))
 refine wpAny_bind (wpAny_newList ?_ (Nat.zero_le _))
 refine wpAny_holding ?_
 have ho6 : (((s.heap.update a (Obj.mapSeq fun _ => (#[] : Array Value))).push (seqObj "tuple" vs.toArray 0)).push (seqObj "list" #[] 0)).get? a = some (seqObj "list" #[] e1) := by
   rw [Heap.get?_push_ne _ _ _ (by rw [size_push', Heap.size_update]; exact Nat.ne_of_lt (Nat.lt_succ_of_lt ha)), Heap.get?_push_ne _ _ _ (by rw [Heap.size_update]; exact Nat.ne_of_lt ha)]
   exact ho1
 show wpAny (model prog w) A _ P E { s with heap := ((s.heap.update a (Obj.mapSeq fun _ => (#[] : Array Value))).push (seqObj "tuple" vs.toArray 0)).push (seqObj "list" #[] 0) }
 dsimp only
 have hn2 : vs.toArray.size < 2 := by rw [List.size_toArray]; exact h2
 rw [if_pos hn2, if_pos hn2]
 refine wpAny_bind (wpAny_pure ?_)
 refine wpAny_bind (wpAny_pure ?_)
 dsimp only
 have hout : (arrOf (SortSt.mk' general' (vs.toArray.zip vs.toArray) #[] 7 none)).map (·.2) = vs.toArray := by
   show (vs.toArray.zip vs.toArray).map (·.2) = vs.toArray
   apply Array.ext
   · simp
   · intro i h1 h2; simp
 rw [hout]
 refine wpAny_bind (seqEpoch_at ho6 rfl ?_)
 refine wpAny_bind (listUpdate_at ho6 rfl ?_ (Nat.zero_le _) (by rw [List.size_toArray, sizeLine_eq]; omega))
 simp only [bne_self_eq_false, Bool.false_eq_true, if_false]
 exact wpAny_pure h
theorem sorted_few {l : Addr} {vs : List Value} {Q : Value → Shared → Prop} (hl : s.heap.IsList l vs.toArray) (h2 : vs.length < 2)
   (h : ∀ (h1 h' : Heap) (e : Nat), (∀ b o, s.heap.get? b = some o → h1.get? b = some o) → (∀ b o, h1.get? b = some o → h'.get? b = some o) → h'.get? h1.objs.size = some (seqObj "list" vs.toArray e) → Q (.ref h1.objs.size) { s with heap := h' }) :
   wpAny (model prog w) A (call (.builtin "sorted") [.ref l]) Q E s := by
 refine Calls.call_function_entry kind_sorted plain_sorted entry_sorted (args_sorted1 _) ?_
 unfold Builtin.«sorted»
 refine wpAny_bind (m := checkCount "sorted" 1 1 _) (wpAny_pure ?_)
 refine wpAny_bind (collect_list hl ?_ (by rw [sizeLine_eq]; omega))
 refine wpAny_bind (wpAny_newList ?_ (by rw [sizeLine_eq]; omega))
 have hsz : ((s.heap.push (seqObj "list" #[] 0)).update s.heap.objs.size (Obj.mapSeq (· ++ vs.toArray))).objs.size = s.heap.objs.size + 1 := by
   rw [Heap.size_update, size_push']
 have hoL : (((s.heap.push (seqObj "list" #[] 0)).update s.heap.objs.size (Obj.mapSeq (· ++ vs.toArray))).push (seqObj "list" vs.toArray 0)).get? (s.heap.objs.size + 1) = some (seqObj "list" vs.toArray 0) := by
   rw [← hsz]; exact Heap.get?_push_size _ rfl
 have keep : ∀ b o, s.heap.get? b = some o → ((s.heap.push (seqObj "list" #[] 0)).update s.heap.objs.size (Obj.mapSeq (· ++ vs.toArray))).get? b = some o := fun b o q => by
   have hlt : b < s.heap.objs.size := Heap.lt_size q
   rw [Heap.get?_update_ne _ _ _ _ (Nat.ne_of_lt hlt), Heap.get?_push_ne _ _ _ (Nat.ne_of_lt hlt)]
   exact q
 show wpAny _ _ _ _ _ { s with heap := ((s.heap.push (seqObj "list" #[] 0)).update s.heap.objs.size (Obj.mapSeq (· ++ vs.toArray))).push (seqObj "list" vs.toArray 0) }
 rw [hsz]
 refine wpAny_bind (wpAny_holding (wpAny_call_entry slot_list_sort ⟨_, hoL, rfl⟩ entry_list_sort ?body (args_list_sort _)))
 case body =>
   refine sort_few hoL h2 ?_
   obtain ⟨e, he⟩ := sortedHeap_at (out := vs.toArray) hoL
   refine ⟨_, rfl, wpAny_pure ⟨_, rfl, ?_⟩⟩
   have k := h ((s.heap.push (seqObj "list" #[] 0)).update s.heap.objs.size (Obj.mapSeq (· ++ vs.toArray))) (sortedHeap (((s.heap.push (seqObj "list" #[] 0)).update s.heap.objs.size (Obj.mapSeq (· ++ vs.toArray))).push (seqObj "list" vs.toArray 0)) (s.heap.objs.size + 1) vs vs.toArray) e keep (fun b o q => ?_) (by rw [hsz]; exact he)
   · rw [hsz] at k; exact k
   · have hlt : b < s.heap.objs.size + 1 := by rw [← hsz]; exact Heap.lt_size q
     rw [sortedHeap_old (Nat.ne_of_lt hlt) (by rw [size_push', hsz]; exact Nat.lt_succ_of_lt hlt)]
     exact Heap.get?_push_of_some _ q
end
def rSortT0 (K : PySem.W.Frag) : List V → Hp → VK → Prop := fun xs H Q => ∃ (l : Addr) (ts : List T3), xs = [.ref l] ∧ SqL K H l (ts.map fun t => V.ref t.1) ∧ ts.length < 64 ∧ (∀ t ∈ ts, 0 ≤ t.2.2 ∧ t.2.2 < 1000000 ∧ ∃ r, H t.1 = some (.tup (.int t.2.1 :: .int t.2.2 :: r))) ∧ (ts.map fun t => t.2.2).Nodup ∧
 ∀ us : List T3, us.Perm ts → us.Pairwise (fun x y => enc x < enc y) → ∀ l', H l' = none → Q (.ref l') (upd H l' (.lst (us.map fun t => V.ref t.1)))
theorem call_sortedT0 {X : Cx} (K : PySem.W.Frag) (hK : X.K = K) : CallR X (.builtin "sorted") (rSortT0 K) := by
 intro pins s σ H xs us Q I r h
 obtain ⟨l, ts, rfl, hq, h64, ht, hnd, q⟩ := h
 by_cases h2 : 2 ≤ ts.length
 · exact call_sortedT K hK pins s σ H _ us Q I r ⟨l, ts, rfl, hq, h2, h64, ht, hnd, q⟩
 subst hK
 obtain ⟨u, rfl, ru⟩ := vals1 r
 cases (show u = Value.ref l from ru)
 obtain ⟨its, r1, pl, _⟩ := I.list hq
 obtain rfl := vals_t3 r1
 refine sorted_few pl.isList (by rw [List.length_map]; omega) fun h1 h' e k1 k2 he => ?_
 have I1 : Inv X pins σ H { s with heap := h1, toks := s.toks } := I.kept (t' := s.toks) k1
 have hpw : ts.Pairwise fun x y => enc x < enc y := by
   match ts, h2 with
   | [], _ => exact List.Pairwise.nil
   | [t], _ => exact List.pairwise_singleton _ _
   | _ :: _ :: _, h2 => exact absurd (by simp) h2
 exact ⟨.ref h1.objs.size, _, I1.laid (t' := s.toks) (o := .lst (ts.map fun t => V.ref t.1)) k2 (Nat.le_refl _) ⟨by rw [List.length_map]; exact Nat.le_trans (Nat.le_of_lt h64) (by decide), ts.map fun t => Value.ref t.1, e, vals_of_t3 ts, he⟩, rfl, q ts (List.Perm.refl _) hpw _ (I1.hok.fresh (Nat.le_refl _))⟩
end L2

set_option Elab.async false
set_option linter.all false
set_option maxRecDepth 100000
set_option maxHeartbeats 4000000
namespace My
open PySem L2
def top (i : Nat) : Stmt := PySem.Challenge.pw_dialecthall_k57_texts_that_are_none.main.body.getD i (.Pass ⟨0, 0, 0, 0⟩)
abbrev s_NoName___init__ : Stmt := inClass (top 10) 0
abbrev s_TooMany___init__ : Stmt := inClass (top 11) 0
abbrev s_Broken___init__ : Stmt := inClass (top 12) 0
abbrev s_NoWriting___init__ : Stmt := inClass (top 13) 0
abbrev s_is_printable : Stmt := top 17
abbrev s_has_signs_alone : Stmt := top 18
abbrev s_is_text : Stmt := top 19
abbrev s_are_unlike_signs : Stmt := top 22
abbrev s_Dialect___init__ : Stmt := inClass (top 23) 0
abbrev s_Dialect_told : Stmt := inClass (top 23) 1
abbrev s_dialect_of : Stmt := top 24
abbrev s_step_at_beginning : Stmt := top 26
abbrev s_step_in_plain : Stmt := top 27
abbrev s_step_within : Stmt := top 28
abbrev s_step_behind : Stmt := top 29
abbrev s_step_in_doubt : Stmt := top 30
abbrev s_step_freed : Stmt := top 31
abbrev s_Turn___init__ : Stmt := inClass (top 32) 0
abbrev s_Turn_step : Stmt := inClass (top 32) 1
abbrev s_check_text : Stmt := top 34
abbrev s_walk : Stmt := top 35
abbrev s_end_of : Stmt := top 36
abbrev s_table_of : Stmt := top 37
abbrev s_uneven_row : Stmt := top 39
abbrev s_fall_of : Stmt := top 40
abbrev s_fallen : Stmt := top 41
abbrev s_takers : Stmt := top 42
abbrev s_last_of : Stmt := top 43
abbrev s_finding : Stmt := top 44
abbrev s_takes_all : Stmt := top 45
abbrev s_found_all : Stmt := top 46
abbrev s_common : Stmt := top 47
abbrev s__law_cell_at : Stmt := top 49
abbrev s__law_mixed : Stmt := top 50
abbrev s__law_number : Stmt := top 51
abbrev s__law_some : Stmt := top 52
abbrev s__law_menus : Stmt := top 53
abbrev s__law_told : Stmt := top 54
abbrev s__law_drawn : Stmt := top 55
abbrev s__law_flags : Stmt := top 56
abbrev s__law_near : Stmt := top 57
abbrev s__law_tolds : Stmt := top 58
abbrev s__law_menu : Stmt := top 59
abbrev s__law_text : Stmt := top 60
abbrev s__law_no_text : Stmt := top 61
abbrev s__law_refused : Stmt := top 62
abbrev s_law : Stmt := top 63

theorem same_new {H : Hp} {l : Addr} {o : HO} (h : H l = none) : Same H (upd H l o) := fun b u e => by rw [upd_ne (ne_of_none e h)]; exact e
theorem same_set {H H2 : Hp} {l : Addr} {o : HO} (h : H l = none) (s : Same H H2) : Same H (upd H2 l o) := fun b u e => by rw [upd_ne (ne_of_none e h)]; exact s b u e
theorem gyes {i : Nat} {x : V} {σ : St} {H : Hp} {A B : St → Hp → Prop} (h : A (σ.set i (some x)) H) : gName i x σ H (fun τ2 H2 => tYes τ2 H2 fun b H3 => if b = true then A τ2 H3 else B τ2 H3) := by
 show (if true = true then A (σ.set i (some x)) H else B (σ.set i (some x)) H)
 exact iteT h
theorem iteDn {p A B : Prop} [Decidable p] (hp : ¬ p) (h : B) : if decide p = true then A else B := by rw [if_neg (by simpa using hp)]; exact h
theorem iteNE {A B : Prop} {b : Bool} (hb : b = true) (h : B) : if (!b) = true then A else B := by rw [hb]; exact iteF h
theorem at_nat {α : Type} {xs : List α} {i : Nat} (h : i < xs.length) : ∃ c, atI xs (0 + (i : Int)) = some c := by
 rw [Int.zero_add]
 exact ⟨xs[i], atI_nat (by simp [h])⟩
theorem at_int {α : Type} {xs : List α} {i : Int} (h0 : 0 ≤ i) (h : i < xs.length) : ∃ c, atI xs i = some c ∧ c ∈ xs := by
 obtain ⟨j, rfl⟩ : ∃ j : Nat, i = j := ⟨i.toNat, by omega⟩
 have hj : j < xs.length := by omega
 exact ⟨xs[j], atI_nat (by simp [hj]), List.getElem_mem hj⟩
def Pn (c : Nat) : Prop := 32 ≤ c ∧ c ≤ 126 ∧ c ≠ 37
instance (c : Nat) : Decidable (Pn c) := by unfold Pn; exact inferInstance
structure Sg (z : Str) : Prop where
 nd : z.cps.toList.Nodup
 pr : ∀ c ∈ z.cps.toList, Pn c
def Mn (z : Str) : Prop := 0 < z.length ∧ z.length ≤ 100 ∧ ∀ c ∈ z.cps.toList, Pn c
instance (z : Str) : Decidable (Mn z) := by unfold Mn; exact inferInstance
structure Gd (p q f : Str) : Prop where
 gp : Sg p
 gq : Sg q
 gf : Sg f
 p1 : 1 ≤ p.length
 p3 : p.length ≤ 3
 q2 : q.length ≤ 2
 f2 : f.length ≤ 2
def seven (p q f : Str) (b1 b2 b3 b4 : Bool) : List V := [.str p, .str q, .str f, .bl b1, .bl b2, .bl b3, .bl b4]
def dfl (p q f : Str) (b1 b2 b3 b4 : Bool) : List (Str × V) := [("parts", .str p), ("quotes", .str q), ("frees", .str f), ("twin", .bl b1), ("wide", .bl b2), ("thin", .bl b3), ("stray", .bl b4)]
def away (t : Str) (c : Nat) : Bool := !(!(Builtin.Str.occurrences t (sg c) 0 t.length 1).isEmpty)
theorem away_iff (t : Str) (c : Nat) : away t c = true ↔ c ∉ t.cps.toList := by
 unfold away
 have e : (!(Builtin.Str.occurrences t (sg c) 0 t.length 1).isEmpty) = decide (c ∈ t.cps.toList) := StrLaws.found_one t c
 rw [e]
 simp
theorem sg_add {z : Str} {c : Nat} (h : Sg z) (hc : Pn c) (ha : away z c = true) : Sg (z ++ sg c) := by
 have e : (z ++ sg c).cps.toList = z.cps.toList ++ [c] := by
   show (z.cps ++ #[c]).toList = _
   simp
 have hn := (away_iff z c).mp ha
 refine ⟨?_, ?_⟩
 · rw [e, List.nodup_append]
   refine ⟨h.nd, by simp, fun a ha b hb => ?_⟩
   rw [List.mem_singleton.mp hb]
   intro q; exact hn (q ▸ ha)
 · rw [e]
   intro d hd
   rcases List.mem_append.mp hd with z' | z'
   · exact h.pr d z'
   · rw [List.mem_singleton.mp z']; exact hc
theorem sg_nil : Sg (Str.ofString "") := by
 have e : (Str.ofString "").cps.toList = [] := by decide +kernel
 refine ⟨?_, ?_⟩
 · rw [e]; exact List.nodup_nil
 · rw [e]; intro c hc; cases hc
theorem app_len (a b : Str) : (a ++ b).length = a.length + b.length := by
 show (a.cps ++ b.cps).size = _
 rw [Array.size_append]; rfl

theorem sqt_mono {K : PySem.W.Frag} {H H' : Hp} {a : Addr} {xs : List V} (e : Same H H') (h : SqT K H a xs) : SqT K H' a xs := by
 rcases h with (h | ⟨o, h⟩) | h
 · exact .inl (.inl (e _ _ h))
 · exact .inl (.inr ⟨o, e _ _ h⟩)
 · exact .inr h
theorem iteNf {A B : Prop} {b : Bool} (hb : b = false) (h : A) : if (!b) = true then A else B := by rw [hb]; exact iteT h
theorem iteBt {A B : Prop} {b : Bool} (hb : b = true) (h : A) : if b = true then A else B := by rw [hb]; exact iteT h
theorem iteBf {A B : Prop} {b : Bool} (hb : b = false) (h : B) : if b = true then A else B := by rw [hb]; exact iteF h
def inS (c : Nat) (z : Str) : Bool := !(Builtin.Str.occurrences z (sg c) 0 z.length 1).isEmpty
def isS (a b : Str) : Bool := decide (V.str a = V.str b)
theorem isS_eq {a b : Str} (h : isS a b = true) : a = b := by have := of_decide_eq_true h; cases this; rfl
theorem isS_self (a : Str) : isS a a = true := decide_eq_true rfl
inductive Res where
 | go (k w u : Str)
 | flt (w : Str)
def RelR (K : PySem.W.Frag) (H : Hp) (v : V) : Res → Prop
 | .go k w u => isS k (Str.ofString "fault") = false ∧ ∃ a b, v = .ref a ∧ SqT K H a [.str k, .ref b] ∧ SqT K H b [.str w, .str u]
 | .flt w => ∃ a, v = .ref a ∧ SqT K H a [.str (Str.ofString "fault"), .str w]
theorem RelR.mono {K : PySem.W.Frag} {H H' : Hp} {v : V} {r : Res} (e : Same H H') (h : RelR K H v r) : RelR K H' v r := by
 cases r with
 | go k w u => obtain ⟨hk, a, b, e1, e2, e3⟩ := h; exact ⟨hk, a, b, e1, sqt_mono e e2, sqt_mono e e3⟩
 | flt w => obtain ⟨a, e1, e2⟩ := h; exact ⟨a, e1, sqt_mono e e2⟩
theorem mk_go {K : PySem.W.Frag} {H : Hp} {Q : VK} {k w u : Str} {r : Res} (e : r = .go k w u) (hk : isS k (Str.ofString "fault") = false) (h : ∀ v H', Same H H' → RelR K H' v r → Q v H') :
   [V.str w, V.str u].length ≤ sizeLine ∧ ∀ b, H b = none → ([V.str k, V.ref b].length ≤ sizeLine ∧ ∀ a, (upd H b (.tup [.str w, .str u])) a = none → Q (.ref a) (upd (upd H b (.tup [.str w, .str u])) a (.tup [.str k, .ref b]))) := by
 refine ⟨(by show 2 ≤ sizeLine; decide), fun b hb => ⟨(by show 2 ≤ sizeLine; decide), fun a ha => ?_⟩⟩
 have s1 := same_new (o := HO.tup [.str w, .str u]) hb
 have s2 := same_new (o := HO.tup [.str k, .ref b]) ha
 refine h _ _ (s1.trans s2) ?_
 rw [e]
 exact ⟨hk, a, b, rfl, SqT.of upd_same, sqt_mono s2 (SqT.of upd_same)⟩
theorem mk_goR {K : PySem.W.Frag} {H H0 : Hp} {Q : VK} {k w u : Str} {r : Res} {b : Addr} (e : r = .go k w u) (hk : isS k (Str.ofString "fault") = false) (s0 : Same H0 H) (hb : SqT K H b [.str w, .str u]) (h : ∀ v H', Same H0 H' → RelR K H' v r → Q v H') :
   [V.str k, V.ref b].length ≤ sizeLine ∧ ∀ a, H a = none → Q (.ref a) (upd H a (.tup [.str k, .ref b])) := by
 refine ⟨(by show 2 ≤ sizeLine; decide), fun a ha => ?_⟩
 have s2 := same_new (o := HO.tup [.str k, .ref b]) ha
 refine h _ _ (s0.trans s2) ?_
 rw [e]
 exact ⟨hk, a, b, rfl, SqT.of upd_same, sqt_mono s2 hb⟩
theorem mk_flt {K : PySem.W.Frag} {H : Hp} {Q : VK} {w : Str} {r : Res} (e : r = .flt w) (h : ∀ v H', Same H H' → RelR K H' v r → Q v H') :
   [V.str (Str.ofString "fault"), V.str w].length ≤ sizeLine ∧ ∀ a, H a = none → Q (.ref a) (upd H a (.tup [.str (Str.ofString "fault"), .str w])) := by
 refine ⟨(by show 2 ≤ sizeLine; decide), fun a ha => ?_⟩
 have s2 := same_new (o := HO.tup [.str (Str.ofString "fault"), .str w]) ha
 refine h _ _ s2 ?_
 rw [e]
 exact ⟨a, rfl, SqT.of upd_same⟩
theorem kf_skip : isS (Str.ofString "skip") (Str.ofString "fault") = false := by decide +kernel
theorem kf_end : isS (Str.ofString "end") (Str.ofString "fault") = false := by decide +kernel
theorem kf_part : isS (Str.ofString "part") (Str.ofString "fault") = false := by decide +kernel
theorem kf_put : isS (Str.ofString "put") (Str.ofString "fault") = false := by decide +kernel
def mBegin (p q f : Str) (b3 : Bool) (w u : Str) (c : Nat) : Res :=
 if inS c f = true then .go (Str.ofString "skip") (Str.ofString "freed") (Str.ofString "") else
 if isS (sg c) (Str.ofString "\n") = true then .go (Str.ofString "end") (Str.ofString "row") (Str.ofString "") else
 if inS c q = true then .go (Str.ofString "skip") (Str.ofString "within") (sg c) else
 if inS c p = true then .go (Str.ofString "part") (Str.ofString "cell") (Str.ofString "") else
 if isS (sg c) (Str.ofString " ") = true then (if b3 = true then .go (Str.ofString "skip") w u else .go (Str.ofString "put") (Str.ofString "plain") (Str.ofString "")) else
 .go (Str.ofString "put") (Str.ofString "plain") (Str.ofString "")
def mPlain (p q f : Str) (b4 : Bool) (c : Nat) : Res :=
 if inS c f = true then .go (Str.ofString "skip") (Str.ofString "freed") (Str.ofString "") else
 if isS (sg c) (Str.ofString "\n") = true then .go (Str.ofString "end") (Str.ofString "row") (Str.ofString "") else
 if inS c p = true then .go (Str.ofString "part") (Str.ofString "cell") (Str.ofString "") else
 if inS c q = true then (if (!b4) = true then .flt (Str.ofString "quote") else .go (Str.ofString "put") (Str.ofString "plain") (Str.ofString "")) else
 .go (Str.ofString "put") (Str.ofString "plain") (Str.ofString "")
def mWithin (f : Str) (b1 b2 : Bool) (u : Str) (c : Nat) : Res :=
 if inS c f = true then .go (Str.ofString "skip") (Str.ofString "freed") u else
 if isS (sg c) u = true then (if b1 = true then .go (Str.ofString "skip") (Str.ofString "doubt") u else .go (Str.ofString "skip") (Str.ofString "behind") (Str.ofString "")) else
 if isS (sg c) (Str.ofString "\n") = true then (if (!b2) = true then .flt (Str.ofString "line") else .go (Str.ofString "put") (Str.ofString "within") u) else
 .go (Str.ofString "put") (Str.ofString "within") u
def mBehind (p : Str) (b3 : Bool) (c : Nat) : Res :=
 if isS (sg c) (Str.ofString "\n") = true then .go (Str.ofString "end") (Str.ofString "row") (Str.ofString "") else
 if inS c p = true then .go (Str.ofString "part") (Str.ofString "cell") (Str.ofString "") else
 if isS (sg c) (Str.ofString " ") = true then (if b3 = true then .go (Str.ofString "skip") (Str.ofString "behind") (Str.ofString "") else .flt (Str.ofString "behind")) else
 .flt (Str.ofString "behind")
def mDoubt (p : Str) (b3 : Bool) (u : Str) (c : Nat) : Res := if isS (sg c) u = true then .go (Str.ofString "put") (Str.ofString "within") u else mBehind p b3 c
def mFreedX (u : Str) : Res := if isS u (Str.ofString "") = true then .go (Str.ofString "put") (Str.ofString "plain") (Str.ofString "") else .go (Str.ofString "put") (Str.ofString "within") u
def mFreed (b2 : Bool) (u : Str) (c : Nat) : Res :=
 if isS (sg c) (Str.ofString "\n") = true then (if (!b2) = true then .flt (Str.ofString "line") else mFreedX u) else mFreedX u
def mOpen (p q f : Str) (b3 b4 : Bool) (w u : Str) (c : Nat) : Res := if isS w (Str.ofString "plain") = true then mPlain p q f b4 c else mBegin p q f b3 w u c
def stepM (p q f : Str) (b1 b2 b3 b4 : Bool) (w u : Str) (c : Nat) : Res :=
 if isS w (Str.ofString "within") = true then mWithin f b1 b2 u c else
 if isS w (Str.ofString "freed") = true then mFreed b2 u c else
 if isS w (Str.ofString "doubt") = true then mDoubt p b3 u c else
 if isS w (Str.ofString "behind") = true then mBehind p b3 c else
 mOpen p q f b3 b4 w u c
theorem ns {a b : String} (h : isS (Str.ofString a) (Str.ofString b) = false) : ¬ isS (Str.ofString a) (Str.ofString b) = true := by rw [h]; decide
theorem sm_plain {p q f : Str} {b1 b2 b3 b4 : Bool} {w u : Str} {c : Nat} (h : isS w (Str.ofString "plain") = true) : stepM p q f b1 b2 b3 b4 w u c = mPlain p q f b4 c := by
 cases isS_eq h
 unfold stepM mOpen
 rw [if_neg (ns (by decide +kernel)), if_neg (ns (by decide +kernel)), if_neg (ns (by decide +kernel)), if_neg (ns (by decide +kernel)), if_pos (isS_self _)]
theorem sm_within {p q f : Str} {b1 b2 b3 b4 : Bool} {w u : Str} {c : Nat} (h : isS w (Str.ofString "within") = true) : stepM p q f b1 b2 b3 b4 w u c = mWithin f b1 b2 u c := by
 unfold stepM
 rw [if_pos h]
theorem sm_doubt {p q f : Str} {b1 b2 b3 b4 : Bool} {w u : Str} {c : Nat} (h : isS w (Str.ofString "doubt") = true) : stepM p q f b1 b2 b3 b4 w u c = mDoubt p b3 u c := by
 cases isS_eq h
 unfold stepM
 rw [if_neg (ns (by decide +kernel)), if_neg (ns (by decide +kernel)), if_pos (isS_self _)]
theorem sm_behind {p q f : Str} {b1 b2 b3 b4 : Bool} {w u : Str} {c : Nat} (h : isS w (Str.ofString "behind") = true) : stepM p q f b1 b2 b3 b4 w u c = mBehind p b3 c := by
 cases isS_eq h
 unfold stepM
 rw [if_neg (ns (by decide +kernel)), if_neg (ns (by decide +kernel)), if_neg (ns (by decide +kernel)), if_pos (isS_self _)]
theorem sm_freed {p q f : Str} {b1 b2 b3 b4 : Bool} {w u : Str} {c : Nat} (h : isS w (Str.ofString "freed") = true) : stepM p q f b1 b2 b3 b4 w u c = mFreed b2 u c := by
 cases isS_eq h
 unfold stepM
 rw [if_neg (ns (by decide +kernel)), if_pos (isS_self _)]
theorem sm_open {p q f : Str} {b1 b2 b3 b4 : Bool} {w u : Str} {c : Nat} (h1 : isS w (Str.ofString "within") = false) (h2 : isS w (Str.ofString "freed") = false) (h3 : isS w (Str.ofString "doubt") = false) (h4 : isS w (Str.ofString "behind") = false) : stepM p q f b1 b2 b3 b4 w u c = mOpen p q f b3 b4 w u c := by
 unfold stepM
 rw [h1, h2, h3, h4]
 rfl
theorem no_of {b : Bool} (h : ¬ b = true) : b = false := by cases b <;> simp_all
def tfl (d : Addr) : List (Str × V) := [("dialect", .ref d)]
structure Tn (C CT : Addr) (H : Hp) (y : Addr) (p q f : Str) (b1 b2 b3 b4 : Bool) : Prop where
 ok : ∃ dy d dd, H y = some (.ins CT dy (tfl d)) ∧ H d = some (.ins C dd (dfl p q f b1 b2 b3 b4))
theorem Tn.mono {C CT : Addr} {H H' : Hp} {y : Addr} {p q f : Str} {b1 b2 b3 b4 : Bool} (s : Same H H') (h : Tn C CT H y p q f b1 b2 b3 b4) : Tn C CT H' y p q f b1 b2 b3 b4 := by
 obtain ⟨dy, d, dd, e1, e2⟩ := h.ok
 exact ⟨dy, d, dd, s _ _ e1, s _ _ e2⟩
theorem same_make {H H' : Hp} {y dy : Addr} {o : HO} (hy : H y = none) (hdy : H dy = none) (kp : ∀ b o', upd (upd H dy (.own y)) y o b = some o' → b ≠ y → H' b = some o') : Same H H' := fun b o' e => kp b o' (by rw [upd_ne (ne_of_none e hy), upd_ne (ne_of_none e hdy)]; exact e) (ne_of_none e hy)
theorem made_old {H : Hp} {y dy b : Addr} {o o' : HO} (hy : H y = none) (hdy : H dy = none) (e : H b = some o') : upd (upd H dy (.own y)) y o b = some o' := by rw [upd_ne (ne_of_none e hy), upd_ne (ne_of_none e hdy)]; exact e
theorem paired_imp {α β : Type} {F G : α → β → Prop} (h : ∀ a b, F a b → G a b) : ∀ {xs : List α} {ys : List β}, Paired F xs ys → Paired G xs ys
 | _, _, .nil => .nil
 | _, _, .cons q r => .cons (h _ _ q) (paired_imp h r)
theorem paired_app {α β : Type} {F : α → β → Prop} : ∀ {xs xs' : List α} {ys ys' : List β}, Paired F xs ys → Paired F xs' ys' → Paired F (xs ++ xs') (ys ++ ys')
 | _, _, _, _, .nil, r => r
 | _, _, _, _, .cons q t, r => .cons q (paired_app t r)
theorem paired_get {α β : Type} {F : α → β → Prop} : ∀ {xs : List α} {ys : List β}, Paired F xs ys → ∀ (j : Nat) x, xs[j]? = some x → ∃ y, ys[j]? = some y ∧ F x y
 | _, _, .nil, j, x, h => by simp at h
 | _, _, .cons q t, 0, x, h => by simp at h; subst h; exact ⟨_, rfl, q⟩
 | _, _, .cons q t, j + 1, x, h => by
   obtain ⟨y, h1, h2⟩ := paired_get t j x (by simpa using h)
   exact ⟨y, by simpa using h1, h2⟩
def c5 : List (Str × Str) := [(Str.ofString "row", Str.ofString ""), (Str.ofString "cell", Str.ofString ""), (Str.ofString "plain", Str.ofString ""), (Str.ofString "behind", Str.ofString ""), (Str.ofString "freed", Str.ofString "")]
def c3 (c : Nat) : List (Str × Str) := [(Str.ofString "within", sg c), (Str.ofString "doubt", sg c), (Str.ofString "freed", sg c)]
def cont (l : List Nat) : List (Str × Str) := c5 ++ l.flatMap c3
def isRow (w u : Str) : Bool := eqVs [.str w, .str u] [.str (Str.ofString "row"), .str (Str.ofString "")]
theorem inS_iff (c : Nat) (z : Str) : inS c z = decide (c ∈ z.cps.toList) := StrLaws.found_one z c
theorem inS_no {c : Nat} {z : Str} (h : c ∉ z.cps.toList) : ¬ inS c z = true := by rw [inS_iff]; simpa using h
theorem l10 {z : Str} (g : Sg z) : ¬ inS 10 z = true := inS_no fun h => by have := (g.pr 10 h).1; omega
theorem lnl : Str.ofString "\n" = sg 10 := by decide +kernel
theorem app_list (a b : Str) : (a ++ b).cps.toList = a.cps.toList ++ b.cps.toList := by
 show (a.cps ++ b.cps).toList = _
 simp
theorem em_list : (Str.ofString "").cps.toList = [] := by decide +kernel
theorem sqt_but {K : PySem.W.Frag} {H : Hp} {a l : Addr} {xs ys : List V} {o : HO} (hl : H l = some (.lst ys)) (e2 : SqT K H a xs) : SqT K (upd H l o) a xs := by
 rcases e2 with (h | ⟨ob, h⟩) | h
 · exact .inl (.inl ((upd_ne (ne_of h hl (by intro z; cases z))).trans h))
 · exact .inl (.inr ⟨ob, (upd_ne (ne_of h hl (by intro z; cases z))).trans h⟩)
 · exact .inr h

theorem take_snocG {α : Type} {l : List α} {i : Nat} {c : α} (h : l[i]? = some c) : l.take (i + 1) = l.take i ++ [c] := by
 rw [List.take_succ, h]; rfl
def cellOk (z : Str) : Prop := ∀ k ∈ z.cps.toList, k = 10 ∨ Pn k
theorem sgL {c : Nat} {z : Str} (e : z = Str.ofString "\n") (h : ¬ decide (V.str (sg c) = V.str z) = true) : c ≠ 10 := fun e2 => h (by
 have : Str.ofString "\n" = sg 10 := by decide +kernel
 rw [e, e2, this]; exact decide_eq_true rfl)

theorem seq_split {t u : TS} {D : Ends} {σ : St} {H : Hp} (N : St → Hp → Prop) (hu : ∀ σ' H', N σ' H' → u D σ' H') (ht : (∀ σ' H', N σ' H' → u D σ' H') → t { D with nx := u D } σ H) : tSeq t u D σ H := ht hu

theorem em_len : (Str.ofString "").length = 0 := by decide +kernel
def runM (p q f : Str) (b1 b2 b3 b4 : Bool) : Str → Str → List Nat → List Str × Str × Str × Option Str
 | w, u, [] => ([], w, u, none)
 | w, u, c :: cs => match stepM p q f b1 b2 b3 b4 w u c with
   | .flt e => ([], w, u, some e)
   | .go k w' u' => (k :: (runM p q f b1 b2 b3 b4 w' u' cs).1, (runM p q f b1 b2 b3 b4 w' u' cs).2)
def appR (ks : List Str) (r : List Str × Str × Str × Option Str) : List Str × Str × Str × Option Str := (ks ++ r.1, r.2)
theorem run_go {p q f : Str} {b1 b2 b3 b4 : Bool} {w u k w' u' : Str} {c : Nat} {cs : List Nat} {ks : List Str} (h : stepM p q f b1 b2 b3 b4 w u c = .go k w' u') : appR ks (runM p q f b1 b2 b3 b4 w u (c :: cs)) = appR (ks ++ [k]) (runM p q f b1 b2 b3 b4 w' u' cs) := by
 have e : runM p q f b1 b2 b3 b4 w u (c :: cs) = (k :: (runM p q f b1 b2 b3 b4 w' u' cs).1, (runM p q f b1 b2 b3 b4 w' u' cs).2) := by
   show (match stepM p q f b1 b2 b3 b4 w u c with | .flt e => ([], w, u, some e) | .go k w' u' => (k :: (runM p q f b1 b2 b3 b4 w' u' cs).1, (runM p q f b1 b2 b3 b4 w' u' cs).2)) = _
   rw [h]
 rw [e]
 unfold appR
 rw [List.append_assoc]
 rfl
theorem run_flt {p q f : Str} {b1 b2 b3 b4 : Bool} {w u e : Str} {c : Nat} {cs : List Nat} {ks : List Str} (h : stepM p q f b1 b2 b3 b4 w u c = .flt e) : appR ks (runM p q f b1 b2 b3 b4 w u (c :: cs)) = (ks, w, u, some e) := by
 have e2 : runM p q f b1 b2 b3 b4 w u (c :: cs) = ([], w, u, some e) := by
   show (match stepM p q f b1 b2 b3 b4 w u c with | .flt e => ([], w, u, some e) | .go k w' u' => (k :: (runM p q f b1 b2 b3 b4 w' u' cs).1, (runM p q f b1 b2 b3 b4 w' u' cs).2)) = _
   rw [h]
 rw [e2]
 unfold appR
 rw [List.append_nil]
theorem run_end {p q f : Str} {b1 b2 b3 b4 : Bool} {w u : Str} {ks : List Str} : appR ks (runM p q f b1 b2 b3 b4 w u []) = (ks, w, u, none) := by
 show (ks ++ [], w, u, none) = _
 rw [List.append_nil]
def wordV : Option Str → V
 | none => .non
 | some e => .str e
def lawW (r : List Str × Str × Str × Option Str) : Str := match r.2.2.2 with
 | some e => e
 | none => if isRow r.2.1 r.2.2.1 = true then Str.ofString "" else Str.ofString "cut"
theorem Tn.but {C CT : Addr} {H : Hp} {y : Addr} {p q f : Str} {b1 b2 b3 b4 : Bool} {l : Addr} {ys : List V} {o : HO} (hl : H l = some (.lst ys)) (h : Tn C CT H y p q f b1 b2 b3 b4) : Tn C CT (upd H l o) y p q f b1 b2 b3 b4 := by
 obtain ⟨dy, d, dd, e1, e2⟩ := h.ok
 exact ⟨dy, d, dd, (upd_ne (ne_of e1 hl (by intro z; cases z))).trans e1, (upd_ne (ne_of e2 hl (by intro z; cases z))).trans e2⟩
theorem drop_cons {l : List Nat} {i c : Nat} (h : l[i]? = some c) : l.drop i = c :: l.drop (i + 1) := by
 obtain ⟨h1, h2⟩ := List.getElem?_eq_some_iff.mp h
 rw [List.drop_eq_getElem_cons h1, h2]
def cntE (ks : List Str) : Nat := (ks.map V.str).countP fun z => eqV z (.str (Str.ofString "end"))
theorem strs_flat (ks : List Str) : (ks.map V.str).all flatV = true := by rw [List.all_map, List.all_eq_true]; intro _ _; rfl
theorem flt_word {p q f : Str} {b1 b2 b3 b4 : Bool} {w u e : Str} {c : Nat} (h : stepM p q f b1 b2 b3 b4 w u c = .flt e) : e = Str.ofString "line" ∨ e = Str.ofString "quote" ∨ e = Str.ofString "behind" := by
 have hb : ∀ {p : Str} {b3 : Bool}, mBehind p b3 c = .flt e → e = Str.ofString "line" ∨ e = Str.ofString "quote" ∨ e = Str.ofString "behind" := by
   intro p b3 h
   unfold mBehind at h
   split at h
   · cases h
   split at h
   · cases h
   split at h
   · split at h
     · cases h
     · cases h; exact .inr (.inr rfl)
   · cases h; exact .inr (.inr rfl)
 unfold stepM at h
 split at h
 · unfold mWithin at h
   split at h
   · cases h
   split at h
   · split at h <;> cases h
   split at h
   · split at h
     · cases h; exact .inl rfl
     · cases h
   · cases h
 split at h
 · unfold mFreed mFreedX at h
   split at h
   · split at h
     · cases h; exact .inl rfl
     · split at h <;> cases h
   · split at h <;> cases h
 split at h
 · unfold mDoubt at h
   split at h
   · cases h
   · exact hb h
 split at h
 · exact hb h
 unfold mOpen at h
 split at h
 · unfold mPlain at h
   split at h
   · cases h
   split at h
   · cases h
   split at h
   · cases h
   split at h
   · split at h
     · cases h; exact .inr (.inl rfl)
     · cases h
   · cases h
 · unfold mBegin at h
   split at h
   · cases h
   split at h
   · cases h
   split at h
   · cases h
   split at h
   · cases h
   split at h
   · split at h <;> cases h
   · cases h
theorem run_go0 {p q f : Str} {b1 b2 b3 b4 : Bool} {w u k w' u' : Str} {c : Nat} {cs : List Nat} (h : stepM p q f b1 b2 b3 b4 w u c = .go k w' u') : runM p q f b1 b2 b3 b4 w u (c :: cs) = (k :: (runM p q f b1 b2 b3 b4 w' u' cs).1, (runM p q f b1 b2 b3 b4 w' u' cs).2) := by
 show (match stepM p q f b1 b2 b3 b4 w u c with | .flt e => ([], w, u, some e) | .go k w' u' => (k :: (runM p q f b1 b2 b3 b4 w' u' cs).1, (runM p q f b1 b2 b3 b4 w' u' cs).2)) = _
 rw [h]
theorem run_flt0 {p q f : Str} {b1 b2 b3 b4 : Bool} {w u e : Str} {c : Nat} {cs : List Nat} (h : stepM p q f b1 b2 b3 b4 w u c = .flt e) : runM p q f b1 b2 b3 b4 w u (c :: cs) = ([], w, u, some e) := by
 show (match stepM p q f b1 b2 b3 b4 w u c with | .flt e => ([], w, u, some e) | .go k w' u' => (k :: (runM p q f b1 b2 b3 b4 w' u' cs).1, (runM p q f b1 b2 b3 b4 w' u' cs).2)) = _
 rw [h]
theorem run_word {p q f : Str} {b1 b2 b3 b4 : Bool} {w u e : Str} {cs : List Nat} (h : (runM p q f b1 b2 b3 b4 w u cs).2.2.2 = some e) : e ≠ Str.ofString "" ∧ e ≠ Str.ofString "cut" := by
 induction cs generalizing w u with
 | nil => cases h
 | cons c cs ih =>
   cases hs : stepM p q f b1 b2 b3 b4 w u c with
   | go k w' u' =>
     rw [run_go0 hs] at h
     exact ih h
   | flt e2 =>
     rw [run_flt0 hs] at h
     cases h
     rcases flt_word hs with rfl | rfl | rfl
     · exact ⟨fun z => absurd (congrArg (fun z => isS z (Str.ofString "line")) z) (by decide +kernel), fun z => absurd (congrArg (fun z => isS z (Str.ofString "line")) z) (by decide +kernel)⟩
     · exact ⟨fun z => absurd (congrArg (fun z => isS z (Str.ofString "quote")) z) (by decide +kernel), fun z => absurd (congrArg (fun z => isS z (Str.ofString "quote")) z) (by decide +kernel)⟩
     · exact ⟨fun z => absurd (congrArg (fun z => isS z (Str.ofString "behind")) z) (by decide +kernel), fun z => absurd (congrArg (fun z => isS z (Str.ofString "behind")) z) (by decide +kernel)⟩
structure B4 where
 a : Bool
 b : Bool
 c : Bool
 d : Bool
def B4.vs (b : B4) : List V := [.bl b.a, .bl b.b, .bl b.c, .bl b.d]
abbrev Cho := Str × Str × Str × B4
def sevC (x : Cho) : List V := seven x.1 x.2.1 x.2.2.1 x.2.2.2.a x.2.2.2.b x.2.2.2.c x.2.2.2.d
def dflC (x : Cho) : List (Str × V) := dfl x.1 x.2.1 x.2.2.1 x.2.2.2.a x.2.2.2.b x.2.2.2.c x.2.2.2.d
theorem strV_at {l : List Str} {i : Nat} {e : V} (h : (l.map V.str)[i]? = some e) : ∃ z, l[i]? = some z ∧ e = .str z := by
 rw [List.getElem?_map] at h
 cases hz : l[i]? with
 | none => rw [hz] at h; cases h
 | some z => rw [hz] at h; exact ⟨z, rfl, (Option.some.inj h).symm⟩
abbrev GdC (x : Cho) : Prop := Gd x.1 x.2.1 x.2.2.1
abbrev Tps (H : Hp) : List V → List Cho → Prop := Paired fun e x => ∃ t, e = V.ref t ∧ H t = some (.tup (sevC x))
theorem Tps.mono {H H' : Hp} (s : Same H H') : ∀ {es : List V} {xs : List Cho}, Tps H es xs → Tps H' es xs
 | _, _, .nil => .nil
 | _, _, .cons ⟨t, e, h⟩ r => .cons ⟨t, e, s _ _ h⟩ (Tps.mono s r)
abbrev Mks (C : Addr) (H : Hp) : List V → List Cho → Prop := Paired fun e x => ∃ y dy, e = V.ref y ∧ H y = some (.ins C dy (dflC x))
theorem Mks.mono {C : Addr} {H H' : Hp} (s : Same H H') : ∀ {es : List V} {xs : List Cho}, Mks C H es xs → Mks C H' es xs
 | _, _, .nil => .nil
 | _, _, .cons ⟨y, dy, e, h⟩ r => .cons ⟨y, dy, e, s _ _ h⟩ (Mks.mono s r)
def unM (fi ro ce : Nat) : List Str → Bool
 | [] => true
 | k :: ks => if isS k (Str.ofString "part") = true then unM fi ro (ce + 1) ks
   else if isS k (Str.ofString "end") = true then (if ro = 0 then unM ce 1 1 ks else if ce = fi then unM fi (ro + 1) 1 ks else false)
   else unM fi ro ce ks
theorem unM_cons (fi ro ce : Nat) (k : Str) (ks : List Str) : unM fi ro ce (k :: ks) = if isS k (Str.ofString "part") = true then unM fi ro (ce + 1) ks
 else if isS k (Str.ofString "end") = true then (if ro = 0 then unM ce 1 1 ks else if ce = fi then unM fi (ro + 1) 1 ks else false)
 else unM fi ro ce ks := rfl
theorem dropG {α : Type} {l : List α} {i : Nat} {c : α} (h : l[i]? = some c) : l.drop i = c :: l.drop (i + 1) := by
 obtain ⟨h1, h2⟩ := List.getElem?_eq_some_iff.mp h
 rw [List.drop_eq_getElem_cons h1, h2]
def fallN (ev : Bool) (r : List Str × Str × Str × Option Str) : Bool := (!ev || unM 0 0 1 r.1) && isS (lawW r) (Str.ofString "")
def runC (x : Cho) (z : Str) : List Str × Str × Str × Option Str := runM x.1 x.2.1 x.2.2.1 x.2.2.2.a x.2.2.2.b x.2.2.2.c x.2.2.2.d (Str.ofString "row") (Str.ofString "") z.cps.toList
def tkC (ev : Bool) (zs : List Str) (x : Cho) : Bool := zs.all fun z => fallN ev (runC x z)
def tkAt (ev : Bool) (zs : List Str) (cs : List Cho) (i : Nat) : Bool := match cs[i]? with
 | some x => tkC ev zs x
 | none => false
def plcs (ev : Bool) (zs : List Str) (cs : List Cho) (n : Nat) : List V := ((List.range n).filter (tkAt ev zs cs)).map fun i : Nat => V.int i
theorem plcs_succ {ev : Bool} {zs : List Str} {cs : List Cho} {n : Nat} {x : Cho} (h : cs[n]? = some x) : plcs ev zs cs (n + 1) = if tkC ev zs x = true then plcs ev zs cs n ++ [.int n] else plcs ev zs cs n := by
 have e : tkAt ev zs cs n = tkC ev zs x := by unfold tkAt; rw [h]
 unfold plcs
 rw [List.range_succ, List.filter_append, List.filter_cons, e]
 split
 · rw [List.map_append]; rfl
 · rw [List.filter_nil, List.append_nil]
theorem plcs_len {ev : Bool} {zs : List Str} {cs : List Cho} {n : Nat} : (plcs ev zs cs n).length ≤ n := by
 unfold plcs
 rw [List.length_map]
 exact Nat.le_trans (List.length_filter_le _ _) (by rw [List.length_range]; exact Nat.le_refl _)

theorem slice_mem {z : Str} {lo hi : Option Int} {c : Nat} (h : c ∈ (Txt.slice z lo hi).cps.toList) : c ∈ z.cps.toList := by
 unfold Txt.slice at h
 split at h
 · exact h
 · have h : c ∈ List.filterMap (fun x => z.cps[x]?) (Builtin.Str.strSliceIndices lo hi 1 z.length) := h
   obtain ⟨k, _, hk⟩ := List.mem_filterMap.mp h
   exact Array.mem_toList_iff.mpr (Array.mem_of_getElem? hk)
theorem slice_to {z : Str} {n : Int} (h0 : 0 ≤ n) : ((Txt.slice z none (some n)).length : Int) ≤ n := by
 have key : ((Builtin.Str.strSliceIndices none (some n) 1 z.length).length : Int) ≤ n := by
   unfold Builtin.Str.strSliceIndices sliceRange
   simp only [show (1 : Int) > 0 by decide, if_true, List.length_map, List.length_range]
   split <;> (try split) <;> (try simp only [Int.ediv_one]) <;> omega
 unfold Txt.slice
 split
 · rename_i e
   have e2 : (Builtin.Str.strSliceIndices none (some n) 1 z.length).length = z.length := by simpa using e
   omega
 · have : (List.filterMap (fun x => z.cps[x]?) (Builtin.Str.strSliceIndices none (some n) 1 z.length)).toArray.size ≤ (Builtin.Str.strSliceIndices none (some n) 1 z.length).length := by
     rw [List.size_toArray]; exact List.length_filterMap_le _ _
   show (((List.filterMap (fun x => z.cps[x]?) (Builtin.Str.strSliceIndices none (some n) 1 z.length)).toArray.size : Nat) : Int) ≤ n
   omega

theorem first_sg {z : Str} (g : Sg z) : Sg (Txt.slice z none (some 1)) := by
 have h := slice_to (z := z) (n := 1) (by decide)
 have e : (Txt.slice z none (some 1)).cps.toList.length = (Txt.slice z none (some 1)).length := by rw [Array.length_toList]; rfl
 refine ⟨?_, fun c hc => g.pr c (slice_mem hc)⟩
 cases q : (Txt.slice z none (some 1)).cps.toList with
 | nil => exact List.nodup_nil
 | cons a l =>
   cases l with
   | nil => simp
   | cons b l => rw [q] at e; simp only [List.length_cons] at e; omega
theorem rev_sg {z : Str} (g : Sg z) : Sg (revS z) := by
 have e : (revS z).cps.toList = z.cps.toList.reverse := by unfold revS; simp
 exact ⟨by rw [e]; exact List.pairwise_reverse.mpr (List.Pairwise.imp (fun h => Ne.symm h) g.nd), fun c hc => g.pr c (by rw [e] at hc; exact List.mem_reverse.mp hc)⟩
theorem rev_len (z : Str) : (revS z).length = z.length := by
 have e : (revS z).cps.toList = z.cps.toList.reverse := by unfold revS; simp
 have := congrArg List.length e
 rw [List.length_reverse, Array.length_toList, Array.length_toList] at this
 exact this

theorem paired_but {H : Hp} {l : Addr} {o : HO} : ∀ {es : List V} {xs : List Cho}, (V.ref l ∉ es) → Tps H es xs → Tps (upd H l o) es xs
 | _, _, _, .nil => .nil
 | _, _, hn, .cons ⟨a, e, h⟩ r => by
   subst e
   have : a ≠ l := fun q => hn (by rw [q]; exact List.mem_cons_self ..)
   exact .cons ⟨a, rfl, (upd_ne this).trans h⟩ (paired_but (fun q => hn (List.mem_cons_of_mem _ q)) r)
theorem join_list (zs : List Str) : (Txt.join (Str.ofString "") zs).cps.toList = zs.flatMap (fun z => z.cps.toList) := by
 have ee : (Str.ofString "").cps.toList = [] := by decide +kernel
 show (Builtin.Str.glued (Str.ofString "") zs).cps.toList = _
 rw [StrLaws.glued_eq_join]
 induction zs with
 | nil => exact ee
 | cons c cs ih =>
   cases cs with
   | nil =>
     show c.cps.toList = _
     simp
   | cons d cs =>
     show (c ++ (Str.ofString "") ++ Str.join (Str.ofString "") (d :: cs)).cps.toList = _
     rw [app_list, app_list, ee, List.append_nil, ih]
     simp [List.flatMap_cons]
theorem sum_len {zs : List Str} {m : Nat} (h : ∀ z ∈ zs, z.length ≤ m) : (zs.map (·.length)).sum + zs.length * (Str.ofString "").length ≤ m * zs.length := by
 have e : (Str.ofString "").length = 0 := by decide +kernel
 rw [e, Nat.mul_zero, Nat.add_zero]
 induction zs with
 | nil => exact Nat.zero_le _
 | cons z zs ih =>
   have h1 := h z (List.mem_cons_self ..)
   have h2 := ih fun y hy => h y (List.mem_cons_of_mem _ hy)
   rw [List.map_cons, List.sum_cons, List.length_cons, Nat.mul_succ]
   omega
theorem fm_len {zs : List Str} {m : Nat} (h : ∀ z ∈ zs, z.length ≤ m) : (zs.flatMap (fun z => z.cps.toList)).length ≤ m * zs.length := by
 induction zs with
 | nil => exact Nat.zero_le _
 | cons z zs ih =>
   have h1 := h z (List.mem_cons_self ..)
   have h2 := ih fun y hy => h y (List.mem_cons_of_mem _ hy)
   rw [List.flatMap_cons, List.length_append, List.length_cons, Nat.mul_succ, Array.length_toList]
   have : z.cps.size ≤ m := h1
   omega

theorem plcs_flat {ev : Bool} {zs : List Str} {cs : List Cho} {n : Nat} : (plcs ev zs cs n).all flatV = true := by
 unfold plcs
 rw [List.all_map, List.all_eq_true]
 intro _ _; rfl
theorem same_selfF {K : PySem.W.Frag} {H : Hp} {n : Nat} {xs : List V} (h : xs.all flatV = true) : ∀ (j : Nat) x y, xs[j]? = some x → xs[j]? = some y → SameD K H n x y := fun j x y ex ey => by
 rw [ex] at ey; cases ey
 have := List.all_eq_true.mp h x (List.mem_of_getElem? ex)
 exact .flat this this (eqV_self this)
theorem rep_fold (a : Array Nat) : ∀ (n : Nat) (acc : Array Nat), ((List.replicate n a).foldl (· ++ ·) acc).size = acc.size + n * a.size ∧ ∀ c ∈ ((List.replicate n a).foldl (· ++ ·) acc).toList, c ∈ acc.toList ∨ c ∈ a.toList
 | 0, acc => ⟨by simp, fun c hc => .inl hc⟩
 | n + 1, acc => by
   rw [List.replicate_succ, List.foldl_cons]
   obtain ⟨h1, h2⟩ := rep_fold a n (acc ++ a)
   refine ⟨by rw [h1, Array.size_append, Nat.succ_mul]; omega, fun c hc => ?_⟩
   rcases h2 c hc with h | h
   · rw [Array.toList_append] at h
     exact List.mem_append.mp h
   · exact .inr h
theorem rep_len (z : Str) (n : Nat) : (repS z n).length = n * z.length := by
 have := (rep_fold z.cps n #[]).1
 show ((List.replicate n z.cps).foldl (· ++ ·) #[]).size = _
 rw [this]; simp; rfl
theorem cut_toN {xs : List V} {n : Nat} (h : n ≤ xs.length) : cutV xs none (some (n : Int)) = xs.take n := by
 unfold cutV
 rw [HT.sIx_nat, HT.sIx_none, Nat.min_eq_left h]
 rfl
theorem cut_mapG {α : Type} (f : α → V) (xs : List α) (lo hi : Option Int) : ∃ ys : List α, cutV (xs.map f) lo hi = ys.map f ∧ ys.length ≤ xs.length ∧ ∀ y ∈ ys, y ∈ xs := by
 refine ⟨(xs.drop (HT.sIx (xs.map f).length 0 lo)).take (HT.sIx (xs.map f).length (xs.map f).length hi - HT.sIx (xs.map f).length 0 lo), ?_, ?_, fun y hy => List.mem_of_mem_drop (List.mem_of_mem_take hy)⟩
 · unfold cutV; rw [List.map_take, List.map_drop]
 · rw [List.length_take, List.length_drop]; omega
theorem Mks.but {C : Addr} {H : Hp} {l : Addr} {o : HO} {ws : List V} (hl : H l = some (.lst ws)) : ∀ {es : List V} {xs : List Cho}, Mks C H es xs → Mks C (upd H l o) es xs
 | _, _, .nil => .nil
 | _, _, .cons ⟨y, dy, e, h⟩ r => .cons ⟨y, dy, e, (upd_ne (ne_of h hl (by intro z; cases z))).trans h⟩ (Mks.but hl r)
structure Gro where
 rows : List (List Str)
 row : List Str
 cell : Str
def gro (g : Gro) (c : Nat) (k : Str) : Gro :=
 if isS k (Str.ofString "put") = true then ⟨g.rows, g.row, g.cell ++ sg c⟩
 else if isS k (Str.ofString "part") = true then ⟨g.rows, g.row ++ [g.cell], Str.ofString ""⟩
 else if isS k (Str.ofString "end") = true then ⟨g.rows ++ [g.row ++ [g.cell]], [], Str.ofString ""⟩
 else g
def groL : Gro → List Nat → List Str → Gro
 | g, c :: cs, k :: ks => groL (gro g c k) cs ks
 | g, _, _ => g
def gro0 : Gro := ⟨[], [], Str.ofString ""⟩
def tabM (z : Str) (ks : List Str) : List (List Str) := (groL gro0 z.cps.toList ks).rows
theorem groL_take : ∀ (g : Gro) (cs : List Nat) (ks : List Str) (i : Nat) (c : Nat) (k : Str), cs[i]? = some c → ks[i]? = some k → groL g (cs.take (i + 1)) (ks.take (i + 1)) = gro (groL g (cs.take i) (ks.take i)) c k
 | g, [], _, i, c, k, h, _ => by simp at h
 | g, _ :: _, [], i, c, k, _, h => by simp at h
 | g, d :: cs, j :: ks, 0, c, k, h1, h2 => by cases h1; cases h2; rfl
 | g, d :: cs, j :: ks, i + 1, c, k, h1, h2 => by
   show groL (gro g d j) (cs.take (i + 1)) (ks.take (i + 1)) = gro (groL (gro g d j) (cs.take i) (ks.take i)) c k
   exact groL_take _ cs ks i c k h1 h2
theorem groL_min : ∀ (g : Gro) (cs : List Nat) (ks : List Str), groL g (cs.take (min cs.length ks.length)) (ks.take (min cs.length ks.length)) = groL g cs ks
 | g, [], ks => by simp [groL]
 | g, _ :: _, [] => by simp [groL]
 | g, d :: cs, j :: ks => by
   have e : min (d :: cs).length (j :: ks).length = min cs.length ks.length + 1 := by rw [List.length_cons, List.length_cons]; omega
   rw [e]
   exact groL_min (gro g d j) cs ks
abbrev Rws (H0 H : Hp) : List V → List (List Str) → Prop := Paired fun e r => ∃ a, e = V.ref a ∧ H0 a = none ∧ H a = some (.lst (r.map V.str))
theorem Rws.mono {H0 H H' : Hp} (s : Same H H') : ∀ {es : List V} {rs : List (List Str)}, Rws H0 H es rs → Rws H0 H' es rs
 | _, _, .nil => .nil
 | _, _, .cons ⟨a, e, n, h⟩ r => .cons ⟨a, e, n, s _ _ h⟩ (Rws.mono s r)
theorem Rws.but {H0 H : Hp} {l : Addr} {o : HO} : ∀ {es : List V} {rs : List (List Str)}, (V.ref l ∉ es) → Rws H0 H es rs → Rws H0 (upd H l o) es rs
 | _, _, _, .nil => .nil
 | _, _, hn, .cons ⟨a, e, n, h⟩ r => by
   subst e
   have : a ≠ l := fun q => hn (by rw [q]; exact List.mem_cons_self ..)
   exact .cons ⟨a, rfl, n, (upd_ne this).trans h⟩ (Rws.but (fun q => hn (List.mem_cons_of_mem _ q)) r)
theorem Rws.app {H0 H : Hp} : ∀ {es es' : List V} {rs rs' : List (List Str)}, Rws H0 H es rs → Rws H0 H es' rs' → Rws H0 H (es ++ es') (rs ++ rs')
 | _, _, _, _, .nil, h => h
 | _, _, _, _, .cons r t, h => .cons r (Rws.app t h)
theorem Rws.has {H0 H : Hp} : ∀ {es : List V} {rs : List (List Str)}, Rws H0 H es rs → ∀ {a : Addr}, V.ref a ∈ es → H0 a = none ∧ ∃ ys, H a = some (.lst ys)
 | _, _, .nil, _, h => by cases h
 | _, _, .cons ⟨b, e, n, h⟩ r, a, ha => by
   rcases List.mem_cons.mp ha with q | q
   · subst e; cases q; exact ⟨n, _, h⟩
   · exact Rws.has r q
theorem Rws.old {H0 H1 H : Hp} (s : Same H0 H1) : ∀ {es : List V} {T : List (List Str)}, Rws H1 H es T → Rws H0 H es T
 | _, _, .nil => .nil
 | _, _, .cons ⟨a, e, n, h⟩ r => .cons ⟨a, e, s.free n, h⟩ (Rws.old s r)
theorem Rws.set {A H : Hp} {l : Addr} {o : HO} (hl : A l ≠ none) : ∀ {es : List V} {T : List (List Str)}, Rws A H es T → Rws A (upd H l o) es T
 | _, _, .nil => .nil
 | _, _, .cons ⟨a, e, n, h⟩ r => .cons ⟨a, e, n, (upd_ne (fun q => hl (by rw [← q]; exact n))).trans h⟩ (Rws.set hl r)
theorem Rws.back {A B H : Hp} (f : ∀ b, B b = none → A b = none) : ∀ {es : List V} {T : List (List Str)}, Rws B H es T → Rws A H es T
 | _, _, .nil => .nil
 | _, _, .cons ⟨a, e, n, h⟩ r => .cons ⟨a, e, f _ n, h⟩ (Rws.back f r)
theorem groL_len : ∀ (n : Nat) (cs : List Nat) (ks : List Str) (g : Gro), g.row.length + cs.length ≤ n → g.rows.length + cs.length ≤ n → (∀ r ∈ g.rows, r.length ≤ n) → (∀ r ∈ (groL g cs ks).rows, r.length ≤ n) ∧ (groL g cs ks).rows.length ≤ n
 | n, [], ks, g, h1, h2, h3 => by
   refine ⟨?_, ?_⟩
   · show ∀ r ∈ g.rows, _; exact h3
   · show g.rows.length ≤ n; omega
 | n, c :: cs, [], g, h1, h2, h3 => by
   refine ⟨?_, ?_⟩
   · show ∀ r ∈ g.rows, _; exact h3
   · show g.rows.length ≤ n; omega
 | n, c :: cs, k :: ks, g, h1, h2, h3 => by
   show (∀ r ∈ (groL (gro g c k) cs ks).rows, r.length ≤ n) ∧ (groL (gro g c k) cs ks).rows.length ≤ n
   rw [List.length_cons] at h1 h2
   unfold gro
   split
   · exact groL_len n cs ks _ (show g.row.length + _ ≤ _ by omega) (show g.rows.length + _ ≤ _ by omega) h3
   split
   · exact groL_len n cs ks _ (by show (g.row ++ [g.cell]).length + _ ≤ _; rw [List.length_append]; show g.row.length + 1 + _ ≤ _; omega) (show g.rows.length + _ ≤ _ by omega) h3
   split
   · refine groL_len n cs ks _ (show ([] : List Str).length + _ ≤ _ by show 0 + _ ≤ _; omega) (by show (g.rows ++ [g.row ++ [g.cell]]).length + _ ≤ _; rw [List.length_append]; show g.rows.length + 1 + _ ≤ _; omega) fun r hr => ?_
     rcases List.mem_append.mp hr with q | q
     · exact h3 r q
     · rw [List.mem_singleton.mp q, List.length_append]; show g.row.length + 1 ≤ n; omega
   · exact groL_len n cs ks _ (by omega) (by omega) h3
theorem tab_len {z : Str} {ks : List Str} : (∀ r ∈ tabM z ks, r.length ≤ z.length) ∧ (tabM z ks).length ≤ z.length := by
 have hz : z.cps.toList.length = z.length := by rw [Array.length_toList]; rfl
 exact groL_len z.length z.cps.toList ks gro0 (by show 0 + _ ≤ _; omega) (by show 0 + _ ≤ _; omega) (fun r hr => nomatch hr)

def unP (fi ro ce at1 : Nat) : List Str → Option (Nat × Nat)
 | [] => none
 | k :: ks => if isS k (Str.ofString "part") = true then unP fi ro (ce + 1) (at1 + 1) ks
   else if isS k (Str.ofString "end") = true then (if ro = 0 then unP ce 1 1 (at1 + 1) ks else if ce = fi then unP fi (ro + 1) 1 (at1 + 1) ks else some (at1, ro))
   else unP fi ro ce (at1 + 1) ks
theorem unP_cons (fi ro ce at1 : Nat) (k : Str) (ks : List Str) : unP fi ro ce at1 (k :: ks) = if isS k (Str.ofString "part") = true then unP fi ro (ce + 1) (at1 + 1) ks
 else if isS k (Str.ofString "end") = true then (if ro = 0 then unP ce 1 1 (at1 + 1) ks else if ce = fi then unP fi (ro + 1) 1 (at1 + 1) ks else some (at1, ro))
 else unP fi ro ce (at1 + 1) ks := rfl
def endT (r : List Str × Str × Str × Option Str) : Option (Nat × Nat × Str) := if isS (lawW r) (Str.ofString "") = true then none else some (r.1.length, cntE r.1, lawW r)
def fallT (ev : Bool) (r : List Str × Str × Str × Option Str) : Option (Nat × Nat × Str) := match (if ev = true then unP 0 0 1 0 r.1 else none) with
 | some (a, b) => some (a, b, Str.ofString "uneven")
 | none => endT r
def fallV (x : Option (Nat × Nat × Str)) (H' : Hp) (v : V) : Prop := match x with
 | none => v = .non
 | some (a, b, w) => ∃ t, v = .ref t ∧ H' t = some (.tup [.int a, .int b, .str w])
theorem endV_n {ks : List Str} {w u : Str} {o : Option Str} {H' : Hp} (h2 : o = none) (h3 : isRow w u = true) : fallV (endT (ks, w, u, o)) H' .non := by
 subst h2
 have e : lawW (ks, w, u, none) = Str.ofString "" := if_pos h3
 unfold endT
 rw [e, if_pos (isS_self _)]
 rfl
theorem endV_s {ks : List Str} {w u : Str} {o : Option Str} {H' : Hp} {t : Addr} (h1 : o = none → isRow w u = false) (h2 : ∀ e, o = some e → e ≠ Str.ofString "") (h : H' t = some (.tup [.int ks.length, .int (cntE ks), .str (o.getD (Str.ofString "cut"))])) : fallV (endT (ks, w, u, o)) H' (.ref t) := by
 have ew : lawW (ks, w, u, o) = o.getD (Str.ofString "cut") := by
   unfold lawW
   cases ho : o with
   | some e => rfl
   | none => exact if_neg (by rw [h1 ho]; decide)
 have hn : ¬ isS (lawW (ks, w, u, o)) (Str.ofString "") = true := fun q => by
   have q := isS_eq q
   rw [ew] at q
   cases ho : o with
   | some e => rw [ho] at q; exact h2 e ho q
   | none => rw [ho] at q; exact absurd (congrArg (fun z => isS z (Str.ofString "")) q) (by decide +kernel)
 unfold endT
 rw [if_neg hn, ew]
 exact ⟨t, rfl, h⟩
abbrev F4 := Nat × Nat × Nat × Str
def tupF (f : F4) : List V := [.int f.1, .int f.2.1, .int f.2.2.1, .str f.2.2.2]
def encF (f : F4) : Int := (f.1 : Int) * 1000000 + (f.2.1 : Int)
abbrev Fls (H : Hp) : List V → List F4 → Prop := Paired fun v f => ∃ t, v = V.ref t ∧ H t = some (.tup (tupF f))
theorem Fls.mono {H H' : Hp} (s : Same H H') : ∀ {ps : List V} {fs : List F4}, Fls H ps fs → Fls H' ps fs
 | _, _, .nil => .nil
 | _, _, .cons ⟨t, e, h⟩ r => .cons ⟨t, e, s _ _ h⟩ (Fls.mono s r)
def fallAt (ev : Bool) (z : Str) (cs : List Cho) (i : Nat) : List F4 := match cs[i]? with
 | some x => (match fallT ev (runC x z) with
   | some (a, b, w) => [(a, i, b, w)]
   | none => [])
 | none => []
def fallsM (ev : Bool) (z : Str) (cs : List Cho) (n : Nat) : List F4 := (List.range n).flatMap (fallAt ev z cs)
theorem falls_succ (ev : Bool) (z : Str) (cs : List Cho) (n : Nat) : fallsM ev z cs (n + 1) = fallsM ev z cs n ++ fallAt ev z cs n := by
 unfold fallsM
 rw [List.range_succ, List.flatMap_append]
 simp
theorem falls_place {ev : Bool} {z : Str} {cs : List Cho} {n : Nat} : ∀ f ∈ fallsM ev z cs n, f.2.1 < n := fun f hf => by
 obtain ⟨i, hi, h⟩ := List.mem_flatMap.mp hf
 have hi := List.mem_range.mp hi
 unfold fallAt at h
 split at h
 · split at h
   · rw [List.mem_singleton.mp h]; exact hi
   · cases h
 · cases h
theorem falls_nodup (ev : Bool) (z : Str) (cs : List Cho) : ∀ n, ((fallsM ev z cs n).map fun f => (f.2.1 : Int)).Nodup
 | 0 => List.nodup_nil
 | n + 1 => by
   rw [falls_succ, List.map_append, List.nodup_append]
   refine ⟨falls_nodup ev z cs n, ?_, fun a ha b hb => ?_⟩
   · unfold fallAt
     split
     · split
       · simp
       · exact List.nodup_nil
     · exact List.nodup_nil
   · obtain ⟨f, hf, rfl⟩ := List.mem_map.mp ha
     obtain ⟨f', hf', rfl⟩ := List.mem_map.mp hb
     have h1 := falls_place f hf
     have h2 : f'.2.1 = n := by
       unfold fallAt at hf'
       split at hf'
       · split at hf'
         · rw [List.mem_singleton.mp hf']
         · cases hf'
       · cases hf'
     omega

theorem Fls.put {H : Hp} {l : Addr} {qs : List V} {o : HO} (hl : H l = some (.lst qs)) : ∀ {ps : List V} {fs : List F4}, Fls H ps fs → Fls (upd H l o) ps fs
 | _, _, .nil => .nil
 | _, _, .cons ⟨t, e, h⟩ r => .cons ⟨t, e, (upd_ne (fun q => by rw [q, hl] at h; cases h)).trans h⟩ (Fls.put hl r)
theorem fls_list {H : Hp} : ∀ {ps : List V} {fs : List F4}, Fls H ps fs → ∃ gs : List (Addr × F4), ps = gs.map (fun g => V.ref g.1) ∧ gs.map (·.2) = fs ∧ ∀ g ∈ gs, H g.1 = some (.tup (tupF g.2))
 | _, _, .nil => ⟨[], rfl, rfl, fun g hg => by cases hg⟩
 | _, f :: fs, .cons ⟨t, e, h⟩ r => by
   obtain ⟨gs, e1, e2, e3⟩ := fls_list r
   refine ⟨(t, f) :: gs, by rw [e, e1]; rfl, by rw [List.map_cons, e2], fun g hg => ?_⟩
   rcases List.mem_cons.mp hg with rfl | hg
   · exact h
   · exact e3 g hg
theorem fls_of {H : Hp} : ∀ {gs : List (Addr × F4)}, (∀ g ∈ gs, H g.1 = some (.tup (tupF g.2))) → Fls H (gs.map fun g => V.ref g.1) (gs.map (·.2))
 | [], _ => .nil
 | g :: gs, h => .cons ⟨g.1, rfl, h g (List.mem_cons_self ..)⟩ (fls_of fun g' hg => h g' (List.mem_cons_of_mem _ hg))
theorem perm_of_map {α β : Type} {f : α → β} {us l : List β} (h : us.Perm l) : ∀ gs : List α, l = gs.map f → ∃ gs' : List α, us = gs'.map f ∧ gs'.Perm gs := by
 induction h with
 | nil => intro gs e; exact ⟨[], rfl, by cases gs with | nil => exact List.Perm.refl _ | cons _ _ => cases e⟩
 | cons x _ ih =>
   intro gs e
   cases gs with
   | nil => cases e
   | cons g gs =>
     injection e with e1 e2
     obtain ⟨gs', e3, e4⟩ := ih gs e2
     exact ⟨g :: gs', by rw [e3, e1]; rfl, e4.cons g⟩
 | swap x y l =>
   intro gs e
   match gs, e with
   | g1 :: g2 :: gs, e =>
     injection e with e1 e2
     injection e2 with e2 e3
     exact ⟨g2 :: g1 :: gs, by rw [e1, e2, e3]; rfl, List.Perm.swap _ _ _⟩
   | [g1], e => injection e with e1 e2; cases e2
 | trans _ _ ih1 ih2 =>
   intro gs e
   obtain ⟨g1, e1, p1⟩ := ih2 gs e
   obtain ⟨g2, e2, p2⟩ := ih1 g1 e1
   exact ⟨g2, e2, p2.trans p1⟩
def lastG (gs : List (Addr × F4)) (z : Nat) : List (Addr × F4) := gs.filter fun g => decide (g.2.1 = z)
def lastF (fs : List F4) : Option F4 := match fs.getLast? with
 | some z => fs.find? fun f => decide (f.1 = z.1)
 | none => none
structure TkR where
 pl : Nat
 t : Addr
 l : Addr
 es : List V
 T : List (List Str)
def TkR.ok (A H : Hp) (g : TkR) : Prop := H g.t = some (.tup [.int g.pl, .ref g.l]) ∧ A g.l = none ∧ H g.l = some (.lst g.es) ∧ Rws A H g.es g.T
def TkR.own (g : TkR) : List V := V.ref g.l :: g.es
def TkR.val (g : TkR) : Nat × List (List Str) := (g.pl, g.T)
theorem TkR.ok.mono {A H H' : Hp} {g : TkR} (s : Same H H') (h : g.ok A H) : g.ok A H' := ⟨s _ _ h.1, h.2.1, s _ _ h.2.2.1, Rws.mono s h.2.2.2⟩
theorem TkR.ok.but {A H : Hp} {g : TkR} {l : Addr} {o : HO} {ws : List V} (hl : H l = some (.lst ws)) (hn : V.ref l ∉ g.own) (h : g.ok A H) : g.ok A (upd H l o) := by
 refine ⟨(upd_ne (ne_of h.1 hl (by intro z; cases z))).trans h.1, h.2.1, (upd_ne (fun q => hn ?_)).trans h.2.2.1, Rws.but (fun q => hn (List.mem_cons_of_mem _ q)) h.2.2.2⟩
 rw [← q]; exact List.mem_cons_self ..
theorem TkR.ok.has {A H : Hp} {g : TkR} (h : g.ok A H) {a : Addr} (q : V.ref a ∈ g.own) : A a = none ∧ ∃ ys, H a = some (.lst ys) := by
 rcases List.mem_cons.mp q with e | e
 · cases e; exact ⟨h.2.1, _, h.2.2.1⟩
 · exact h.2.2.2.has e
structure Tks (A H : Hp) (l : Addr) (gs : List TkR) (ps : List (Nat × List (List Str))) : Prop where
 ls : H l = some (.lst (gs.map fun g => V.ref g.t))
 eq : gs.map TkR.val = ps
 ok : ∀ g ∈ gs, g.ok A H
 nd : (V.ref l :: gs.flatMap TkR.own).Nodup
 fr : A l = none
theorem Tks.mono {A H H' : Hp} {l : Addr} {gs : List TkR} {ps : List (Nat × List (List Str))} (s : Same H H') (h : Tks A H l gs ps) : Tks A H' l gs ps := ⟨s _ _ h.ls, h.eq, fun g hg => (h.ok g hg).mono s, h.nd, h.fr⟩
theorem own_ref {A H : Hp} {g : TkR} (h : g.ok A H) {v : V} (q : v ∈ g.own) : ∃ a, v = V.ref a ∧ A a = none ∧ ∃ ys, H a = some (.lst ys) := by
 rcases List.mem_cons.mp q with e | e
 · exact ⟨_, e, h.2.1, _, h.2.2.1⟩
 · obtain ⟨i, hi⟩ := List.getElem?_of_mem e
   obtain ⟨_, _, a, rfl, ha⟩ := paired_get h.2.2.2 i v hi
   exact ⟨a, rfl, ha.1, _, ha.2⟩
theorem Tks.snoc {A H H7 : Hp} {l : Addr} {gs : List TkR} {ps : List (Nat × List (List Str))} (h : Tks A H l gs ps) (sA : Same A H) {lt u : Addr} {es : List V} {T : List (List Str)} {i : Nat} (hlt : H lt = none) (s7 : Same H H7) (h7 : H7 lt = some (.lst es)) (n1 : V.ref lt ∉ es) (nd : es.Nodup) (rws : Rws H H7 es T) (hu : H7 u = none) :
   Tks A (upd (upd H7 u (.tup [.int i, .ref lt])) l (.lst ((gs.map fun g => V.ref g.t) ++ [V.ref u]))) l (gs ++ [⟨i, u, lt, es, T⟩]) (ps ++ [(i, T)]) := by
 have su := same_new (o := HO.tup [.int i, .ref lt]) hu
 have s8 := s7.trans su
 have h8 := s8 _ _ h.ls
 have nul : u ≠ l := fun q => by rw [q, s7 _ _ h.ls] at hu; cases hu
 have hnl : ∀ g ∈ gs, V.ref l ∉ g.own := fun g hg q => (List.nodup_cons.mp h.nd).1 (List.mem_flatMap.mpr ⟨g, hg, q⟩)
 have back : Rws A H7 es T := paired_imp (fun _ _ ⟨a, e1, e2, e3⟩ => ⟨a, e1, sA.free e2, e3⟩) rws
 have hnn : V.ref l ∉ TkR.own ⟨i, u, lt, es, T⟩ := fun q => by
   rcases List.mem_cons.mp q with e | e
   · cases e; rw [h.ls] at hlt; cases hlt
   · have := (rws.has e).1; rw [h.ls] at this; cases this
 have okn : TkR.ok A (upd H7 u (.tup [.int i, .ref lt])) ⟨i, u, lt, es, T⟩ := ⟨upd_same, sA.free hlt, su _ _ h7, Rws.mono su back⟩
 refine ⟨?_, ?_, fun g hg => ?_, ?_, h.fr⟩
 · rw [upd_same, List.map_append]; rfl
 · rw [List.map_append, h.eq]; rfl
 · rcases List.mem_append.mp hg with q | q
   · exact ((h.ok g q).mono s8).but h8 (hnl g q)
   · rw [List.mem_singleton.mp q]; exact okn.but h8 hnn
 · have nd0 := List.nodup_cons.mp h.nd
   rw [List.flatMap_append]
   refine List.nodup_cons.mpr ⟨fun q => ?_, List.nodup_append.mpr ⟨nd0.2, ?_, fun a ha b hb e => ?_⟩⟩
   · rcases List.mem_append.mp q with q | q
     · exact nd0.1 q
     · rw [List.flatMap_cons, List.flatMap_nil, List.append_nil] at q; exact hnn q
   · rw [List.flatMap_cons, List.flatMap_nil, List.append_nil]
     exact List.nodup_cons.mpr ⟨n1, nd⟩
   · rw [List.flatMap_cons, List.flatMap_nil, List.append_nil] at hb
     obtain ⟨g, hg, ha⟩ := List.mem_flatMap.mp ha
     obtain ⟨x, rfl, _, ys, hx⟩ := own_ref (h.ok g hg) ha
     subst e
     rcases List.mem_cons.mp hb with e | e
     · cases e; rw [hx] at hlt; cases hlt
     · have := (rws.has e).1; rw [hx] at this; cases this
def takAt (ev : Bool) (z : Str) (cs : List Cho) (i : Nat) : List (Nat × List (List Str)) := match cs[i]? with
 | some x => (match fallT ev (runC x z) with
   | some _ => []
   | none => [(i, tabM z (runC x z).1)])
 | none => []
def takM (ev : Bool) (z : Str) (cs : List Cho) (n : Nat) : List (Nat × List (List Str)) := (List.range n).flatMap (takAt ev z cs)
theorem tak_succ (ev : Bool) (z : Str) (cs : List Cho) (n : Nat) : takM ev z cs (n + 1) = takM ev z cs n ++ takAt ev z cs n := by
 unfold takM
 rw [List.range_succ, List.flatMap_append]
 simp
theorem tak_none {ev : Bool} {z : Str} {cs : List Cho} {i : Nat} {x : Cho} (hx : cs[i]? = some x) (e : fallT ev (runC x z) = none) : takAt ev z cs i = [(i, tabM z (runC x z).1)] ∧ fallAt ev z cs i = [] := by
 unfold takAt fallAt
 rw [hx]
 show (match fallT ev (runC x z) with | some _ => [] | none => [(i, tabM z (runC x z).1)]) = _ ∧ (match fallT ev (runC x z) with | some (a, b, w) => [(a, i, b, w)] | none => []) = _
 rw [e]
 exact ⟨rfl, rfl⟩
theorem tak_some {ev : Bool} {z : Str} {cs : List Cho} {i : Nat} {x : Cho} {a b : Nat} {w : Str} (hx : cs[i]? = some x) (e : fallT ev (runC x z) = some (a, b, w)) : takAt ev z cs i = [] ∧ fallAt ev z cs i = [(a, i, b, w)] := by
 unfold takAt fallAt
 rw [hx]
 show (match fallT ev (runC x z) with | some _ => [] | none => [(i, tabM z (runC x z).1)]) = _ ∧ (match fallT ev (runC x z) with | some (a, b, w) => [(a, i, b, w)] | none => []) = _
 rw [e]
 exact ⟨rfl, rfl⟩

def lastT (f : F4) : List V := [.int f.2.1, .int f.2.2.1, .int f.1, .str f.2.2.2]
def lastO (o : Option F4) (H' : Hp) (v : V) : Prop := match o with
 | none => v = .non
 | some f => ∃ t, v = .ref t ∧ H' t = some (.tup (lastT f))
abbrev lastV (fs : List F4) (H' : Hp) (v : V) : Prop := lastO (lastF fs) H' v
theorem lastV_n {H' : Hp} {fs : List F4} (h : fs = []) : lastV fs H' .non := by subst h; exact rfl
theorem lastV_s {H' : Hp} {fs : List F4} {f : F4} {t : Addr} (h : lastF fs = some f) (ht : H' t = some (.tup (lastT f))) : lastV fs H' (.ref t) := by
 unfold lastV; rw [h]; exact ⟨t, rfl, ht⟩
theorem lastO.mono {o : Option F4} {H H' : Hp} {v : V} (s : Same H H') (h : lastO o H v) : lastO o H' v := by
 cases o with
 | none => exact h
 | some f => obtain ⟨t, e1, e2⟩ := h; exact ⟨t, e1, s _ _ e2⟩
def FndD (ev : Bool) (z : Str) (cs : List Cho) (H H' : Hp) (w v : V) : Prop := (takM ev z cs cs.length ≠ [] ∧ w = .str (Str.ofString "read") ∧ ∃ l gs, v = .ref l ∧ Tks H H' l gs (takM ev z cs cs.length)) ∨ (takM ev z cs cs.length = [] ∧ w = .str (Str.ofString "none") ∧ ∃ fs, lastV fs H' v ∧ fs.Perm (fallsM ev z cs cs.length) ∧ fs.Pairwise (fun x y => encF x < encF y))
theorem tks_empty {A H : Hp} {l : Addr} {gs : List TkR} {ps : List (Nat × List (List Str))} (h : Tks A H l gs ps) (e : gs.map (fun g => V.ref g.t) = []) : ps = [] := by
 have : gs = [] := List.map_eq_nil_iff.mp e
 rw [← h.eq, this]; rfl
theorem falls_len {ev : Bool} {z : Str} {cs : List Cho} : ∀ n, (fallsM ev z cs n).length ≤ n
 | 0 => Nat.le_refl _
 | n + 1 => by
   have := falls_len (ev := ev) (z := z) (cs := cs) n
   have h2 : (fallAt ev z cs n).length ≤ 1 := by
     unfold fallAt
     split
     · split <;> simp
     · simp
   rw [falls_succ, List.length_append]; omega
theorem one_rise {fs us fm : List F4} (h1 : fs.Perm fm) (h2 : us.Perm fm) (s1 : fs.Pairwise (fun x y => encF x < encF y)) (s2 : us.Pairwise (fun x y => encF x < encF y)) : fs = us :=
 List.Perm.eq_of_pairwise (le := fun x y => encF x < encF y) (fun a b _ _ q1 q2 => by omega) s1 s2 (h1.trans h2.symm)

theorem last_sameD {K : PySem.W.Frag} {H : Hp} {o : Option F4} {v v' : V} {n : Nat} (h1 : lastO o H v) (h2 : lastO o H v') : SameD K H (n + 1) v v' := by
 cases o with
 | none => rw [show v = .non from h1, show v' = .non from h2]; exact .flat rfl rfl rfl
 | some f =>
   obtain ⟨a, rfl, ha⟩ := h1
   obtain ⟨b, rfl, hb⟩ := h2
   exact .tup (SqT.of ha) (SqT.of hb) rfl (same_selfF rfl)
theorem rws_sameD {K : PySem.W.Frag} {A B H : Hp} {es es' : List V} {T : List (List Str)} {n : Nat} (h1 : Rws A H es T) (h2 : Rws B H es' T) : ∀ (j : Nat) x y, es[j]? = some x → es'[j]? = some y → SameD K H (n + 1) x y := fun j x y ex ey => by
 obtain ⟨r, hr, a, rfl, _, ha⟩ := paired_get h1 j x ex
 obtain ⟨r', hr', b, rfl, _, hb⟩ := paired_get h2 j y ey
 rw [hr] at hr'; cases hr'
 exact .lst (SqL.of ha) (SqL.of hb) rfl (same_selfF (strs_flat _))
theorem tup2_sameD {K : PySem.W.Frag} {H : Hp} {n : Nat} {a b a' b' : V} (h1 : SameD K H n a a') (h2 : SameD K H n b b') : ∀ (j : Nat) x y, [a, b][j]? = some x → [a', b'][j]? = some y → SameD K H n x y := fun j x y ex ey => by
 match j, ex, ey with
 | 0, ex, ey => cases ex; cases ey; exact h1
 | 1, ex, ey => cases ex; cases ey; exact h2
 | j + 2, ex, _ => cases ex
theorem tk_items {K : PySem.W.Frag} {A B H : Hp} {g g' : TkR} {n : Nat} (h1 : g.ok A H) (h2 : g'.ok B H) (e : g.val = g'.val) : ∀ (j : Nat) x y, [V.int g.pl, .ref g.l][j]? = some x → [V.int g'.pl, .ref g'.l][j]? = some y → SameD K H (n + 2) x y := by
 have e1 : g.pl = g'.pl := congrArg Prod.fst e
 have e2 : g.T = g'.T := congrArg Prod.snd e
 refine tup2_sameD (.flat rfl rfl ?_) (.lst (SqL.of h1.2.2.1) (SqL.of h2.2.2.1) ?_ ?_)
 · rw [e1]; exact eqV_self rfl
 · rw [h1.2.2.2.length, h2.2.2.2.length, e2]
 · have q := h1.2.2.2
   rw [e2] at q
   exact rws_sameD q h2.2.2.2
theorem tk_sameD {K : PySem.W.Frag} {A B H : Hp} {g g' : TkR} {n : Nat} (h1 : g.ok A H) (h2 : g'.ok B H) (e : g.val = g'.val) : SameD K H (n + 3) (.ref g.t) (.ref g'.t) :=
 .tup (SqT.of h1.1) (SqT.of h2.1) rfl (tk_items h1 h2 e)
theorem tks_sameD {K : PySem.W.Frag} {A B H : Hp} {l l' : Addr} {gs gs' : List TkR} {ps : List (Nat × List (List Str))} {n : Nat} (h1 : Tks A H l gs ps) (h2 : Tks B H l' gs' ps) : ∀ (j : Nat) x y, (gs.map fun g => V.ref g.t)[j]? = some x → (gs'.map fun g => V.ref g.t)[j]? = some y → SameD K H (n + 3) x y := fun j x y ex ey => by
 rw [List.getElem?_map] at ex ey
 obtain ⟨g, hg, rfl⟩ := Option.map_eq_some_iff.mp ex
 obtain ⟨g', hg', rfl⟩ := Option.map_eq_some_iff.mp ey
 refine tk_sameD (h1.ok g (List.mem_of_getElem? hg)) (h2.ok g' (List.mem_of_getElem? hg')) ?_
 have q1 : (gs.map TkR.val)[j]? = some g.val := by rw [List.getElem?_map, hg]; rfl
 have q2 : (gs'.map TkR.val)[j]? = some g'.val := by rw [List.getElem?_map, hg']; rfl
 rw [h1.eq] at q1
 rw [h2.eq, q1] at q2
 exact Option.some.inj q2
theorem tks_len {A B H H' : Hp} {l l' : Addr} {gs gs' : List TkR} {ps : List (Nat × List (List Str))} (h1 : Tks A H l gs ps) (h2 : Tks B H' l' gs' ps) : (gs.map fun g => V.ref g.t).length = (gs'.map fun g => V.ref g.t).length := by
 have := congrArg List.length (h1.eq.trans h2.eq.symm)
 rw [List.length_map, List.length_map] at this ⊢
 exact this
def Kp (S : List V) (H H' : Hp) : Prop := ∀ b o, V.ref b ∉ S → H b = some o → H' b = some o
theorem Kp.refl {S : List V} {H : Hp} : Kp S H H := fun _ _ _ h => h
theorem Kp.trans {S R : List V} {H H1 H2 : Hp} (h : Kp S H H1) (h2 : Kp R H1 H2) : Kp (S ++ R) H H2 := fun b o q e => h2 b o (fun z => q (List.mem_append_right _ z)) (h b o (fun z => q (List.mem_append_left _ z)) e)
theorem Kp.set {S : List V} {H H' : Hp} {a : Addr} {o : HO} (h : Kp S H H') : Kp (S ++ [.ref a]) H (upd H' a o) := fun b o' q e => (upd_ne (fun z => q (List.mem_append_right _ (by rw [z]; exact List.mem_singleton.mpr rfl)))).trans (h b o' (fun z => q (List.mem_append_left _ z)) e)
theorem Kp.more {S R : List V} {H H' : Hp} (hs : ∀ v ∈ S, v ∈ R) (h : Kp S H H') : Kp R H H' := fun b o q e => h b o (fun z => q (hs _ z)) e
theorem Kp.next {S : List V} {H H1 H2 : Hp} (h : Kp S H H1) (s : Same H1 H2) : Kp S H H2 := fun b o q e => s _ _ (h b o q e)
theorem Kp.same {S : List V} {A H H' : Hp} (h : Kp S H H') (s : Same A H) (hf : ∀ a, V.ref a ∈ S → A a = none) : Same A H' := fun b o e => h b o (fun q => by rw [hf b q] at e; cases e) (s _ _ e)
theorem Kp.rws {S : List V} {A H H' : Hp} (h : Kp S H H') : ∀ {es : List V} {T : List (List Str)}, (∀ v ∈ es, v ∉ S) → Rws A H es T → Rws A H' es T
 | _, _, _, .nil => .nil
 | _, _, q, .cons ⟨a, e, n, p⟩ r => .cons ⟨a, e, n, h _ _ (by rw [← e]; exact q _ (List.mem_cons_self ..)) p⟩ (Kp.rws h (fun v hv => q v (List.mem_cons_of_mem _ hv)) r)
theorem Tks.fresh {A H : Hp} {l : Addr} {gs : List TkR} {ps : List (Nat × List (List Str))} (h : Tks A H l gs ps) {i : Nat} {a : Addr} (q : V.ref a ∈ (gs.take i).flatMap TkR.own) : A a = none ∧ ∃ ys, H a = some (.lst ys) := by
 obtain ⟨g, hg, q⟩ := List.mem_flatMap.mp q
 exact (h.ok g (List.mem_of_mem_take hg)).has q
theorem Tks.free {A H : Hp} {l : Addr} {gs : List TkR} {ps : List (Nat × List (List Str))} (h : Tks A H l gs ps) {a : Addr} (q : V.ref a ∈ V.ref l :: gs.flatMap TkR.own) : A a = none := by
 rcases List.mem_cons.mp q with e | q
 · cases e; exact h.fr
 · obtain ⟨g, hg, q⟩ := List.mem_flatMap.mp q
   exact ((h.ok g hg).has q).1
theorem own_apart : ∀ {gs : List TkR} {i : Nat} {g : TkR}, (gs.flatMap TkR.own).Nodup → gs[i]? = some g → ∀ v ∈ g.own, v ∉ (gs.take i).flatMap TkR.own
 | [], i, g, _, h, _, _ => by simp at h
 | g0 :: gs, 0, g, _, _, v, _ => by simp
 | g0 :: gs, i + 1, g, nd, h, v, hv => by
   rw [List.flatMap_cons, List.nodup_append] at nd
   rw [List.getElem?_cons_succ] at h
   rw [List.take_succ_cons, List.flatMap_cons]
   intro q
   rcases List.mem_append.mp q with q | q
   · exact nd.2.2 v q v (List.mem_flatMap.mpr ⟨g, List.mem_of_getElem? h, hv⟩) rfl
   · exact own_apart nd.2.1 h v hv q
theorem Tks.at {A H H' : Hp} {l : Addr} {gs : List TkR} {ps : List (Nat × List (List Str))} {i : Nat} {g : TkR} (h : Tks A H l gs ps) (kp : Kp ((gs.take i).flatMap TkR.own) H H') (hg : gs[i]? = some g) : g.ok A H' := by
 have ok := h.ok g (List.mem_of_getElem? hg)
 have ap := own_apart (List.nodup_cons.mp h.nd).2 hg
 refine ⟨kp _ _ (fun q => ?_) ok.1, ok.2.1, kp _ _ (ap _ (List.mem_cons_self ..)) ok.2.2.1, kp.rws (fun v hv => ap v (List.mem_cons_of_mem _ hv)) ok.2.2.2⟩
 obtain ⟨_, ys, e⟩ := h.fresh q
 rw [ok.1] at e; cases e
theorem Tks.list {A H H' : Hp} {l : Addr} {gs : List TkR} {ps : List (Nat × List (List Str))} {i : Nat} (h : Tks A H l gs ps) (kp : Kp ((gs.take i).flatMap TkR.own) H H') : H' l = some (.lst (gs.map fun g => V.ref g.t)) :=
 kp _ _ (fun q => (List.nodup_cons.mp h.nd).1 (by obtain ⟨g, hg, q⟩ := List.mem_flatMap.mp q; exact List.mem_flatMap.mpr ⟨g, List.mem_of_mem_take hg, q⟩)) h.ls
theorem tak_tab {ev : Bool} {z : Str} {cs : List Cho} {n : Nat} {p : Nat × List (List Str)} (h : p ∈ takM ev z cs n) : (∀ r ∈ p.2, r.length ≤ z.length) ∧ p.2.length ≤ z.length := by
 obtain ⟨i, _, h⟩ := List.mem_flatMap.mp h
 unfold takAt at h
 split at h
 · split at h
   · cases h
   · rw [List.mem_singleton.mp h]; exact tab_len
 · cases h
theorem Kp.keep {S : List V} {H H' : Hp} {b : Addr} {o : HO} (h : Kp S H H') (hb : H b = some o) (hS : ∀ a, V.ref a ∈ S → ∃ ys, H a = some (.lst ys)) (ho : ∀ ys, o ≠ .lst ys) : H' b = some o :=
 h b o (fun q => by obtain ⟨ys, e⟩ := hS b q; rw [hb] at e; exact ho ys (Option.some.inj e)) hb
theorem Tks.size {A H : Hp} {l : Addr} {gs : List TkR} {ev : Bool} {z : Str} {cs : List Cho} {n : Nat} (h : Tks A H l gs (takM ev z cs n)) {g : TkR} (hg : g ∈ gs) : (∀ r ∈ g.T, r.length ≤ z.length) ∧ g.T.length ≤ z.length :=
 tak_tab (p := g.val) (by rw [← h.eq]; exact List.mem_map.mpr ⟨g, hg, rfl⟩)
theorem nl_one : (Str.ofString "\n").length = 1 := by decide +kernel


theorem same_self {K : PySem.W.Frag} {H : Hp} {xs : List V} (h : xs.all flatV = true) : ∀ (j : Nat) x y, xs[j]? = some x → xs[j]? = some y → SameD K H 1 x y := fun j x y ex ey => by
 rw [ex] at ey; cases ey
 have := List.all_eq_true.mp h x (List.mem_of_getElem? ex)
 exact .flat this this (eqV_self this)

theorem Rws.weak {A H : Hp} {es : List V} {R : List (List Str)} (h : Rws A H es R) : Rws (fun _ => none) H es R := paired_imp (fun _ _ ⟨a, e1, _, e3⟩ => ⟨a, e1, rfl, e3⟩) h
def okc (c : Nat) : Bool := decide (c = 10 ∨ Pn c)
def textOk (z : Str) : Bool := z.cps.toList.all okc
theorem text_ok {z : Str} (h : cellOk z) : textOk z = true := by
 unfold textOk
 rw [List.all_eq_true]
 exact fun c hc => decide_eq_true (h c hc)
def isT : V → Bool
 | .str z => decide (z.length ≤ 2000) && textOk z
 | _ => false
theorem slice_from {z : Str} {n : Int} (h0 : 0 ≤ n) : (Txt.slice z (some n) none).length ≤ z.length := by
 have key : (Builtin.Str.strSliceIndices (some n) none 1 z.length).length ≤ z.length := by
   unfold Builtin.Str.strSliceIndices sliceRange
   simp only [show (1 : Int) > 0 by decide, if_true, List.length_map, List.length_range]
   split <;> (try split) <;> (try simp only [Int.ediv_one]) <;> omega
 unfold Txt.slice
 split
 · exact Nat.le_refl _
 · refine Nat.le_trans ?_ key
   show (List.filterMap (fun x => z.cps[x]?) (Builtin.Str.strSliceIndices (some n) none 1 z.length)).toArray.size ≤ _
   rw [List.size_toArray]; exact List.length_filterMap_le _ _
theorem tab_not {a b : Str} : textOk ((a ++ Str.ofString "\t") ++ b) = false := by
 have h9 : 9 ∈ ((a ++ Str.ofString "\t") ++ b).cps.toList := by
   rw [app_list, app_list, show Str.ofString "\t" = sg 9 by decide +kernel]
   exact List.mem_append_left _ (List.mem_append_right _ (List.mem_singleton.mpr rfl))
 unfold textOk
 rw [Bool.eq_false_iff]
 intro h
 have := List.all_eq_true.mp h 9 h9
 exact absurd this (by decide)
theorem isT_tab {a b : Str} : isT (.str ((a ++ Str.ofString "\t") ++ b)) = false := by
 show (_ && textOk _) = false
 rw [tab_not, Bool.and_false]
inductive Knd (H : Hp) : V → Prop where
 | str (z : Str) : Knd H (.str z)
 | non : Knd H .non
 | bl (b : Bool) : Knd H (.bl b)
 | int (n : Int) : Knd H (.int n)
 | lst {a : Addr} {xs : List V} : H a = some (.lst xs) → xs.all flatV = true → Knd H (.ref a)
 | tup {a : Addr} {xs : List V} : H a = some (.tup xs) → xs.all flatV = true → Knd H (.ref a)
 | dic {a : Addr} {k : Key} {v : V} : H a = some (.dK [(k, v)]) → flatV v = true → Knd H (.ref a)
theorem Knd.mono {H H' : Hp} {v : V} (s : Same H H') (h : Knd H v) : Knd H' v := by
 cases h with
 | str z => exact .str z
 | non => exact .non
 | bl b => exact .bl b
 | int n => exact .int n
 | lst e f => exact .lst (s _ _ e) f
 | tup e f => exact .tup (s _ _ e) f
 | dic e f => exact .dic (s _ _ e) f
theorem isT_long {z : Str} (h : 2000 < z.length) : isT (.str z) = false := by
 show (decide (z.length ≤ 2000) && textOk z) = false
 rw [decide_eq_false (by omega)]; rfl
theorem slen {z : Str} {n : Int} {m : Nat} (h : 0 ≤ n) (hn : n ≤ m) : (Txt.slice z none (some n)).length ≤ m := by have := slice_to (z := z) h; omega
def Ask (K : PySem.W.Frag) (C : Addr) (Ds : List Addr) (f : Nat → Bool) : Prop := ∀ (j : Nat) (D : Addr), Ds[j]? = some D → PySem.W.kitOne K (.ref C) (.ref D) = some (f j)
structure XC1 (K : PySem.W.Frag) (C B : Addr) (Ds : List Addr) (f : Nat → Bool) : Prop where
 cl : ∃ N bm ini, XCl K C N bm ini ∧ XTl K bm
 xk : XKl K C
 ask : Ask K C Ds f
 ba : PySem.W.kitOne K (.ref C) (.ref B) = some true
 ve : PySem.W.kitOne K (.ref C) (.type "ValueError") = some true


theorem int_dec {a b : Int} : decide (V.int a = V.int b) = decide (a = b) := by
 by_cases h : a = b
 · rw [h, decide_eq_true rfl, decide_eq_true rfl]
 · rw [decide_eq_false h, decide_eq_false fun e => h (by injection e)]


theorem text_t {z : Str} (h : cellOk z) (h2 : z.length ≤ 2000) : isT (.str z) = true := by
 show (decide (z.length ≤ 2000) && textOk z) = true
 rw [text_ok h, decide_eq_true h2]; rfl
theorem unM_P : ∀ (ks : List Str) (fi ro ce at1 : Nat), unM fi ro ce ks = (unP fi ro ce at1 ks).isNone
 | [], _, _, _, _ => rfl
 | k :: ks, fi, ro, ce, at1 => by
   rw [unM_cons, unP_cons]
   by_cases h1 : isS k (Str.ofString "part") = true
   · rw [if_pos h1, if_pos h1]; exact unM_P ks _ _ _ _
   rw [if_neg h1, if_neg h1]
   by_cases h2 : isS k (Str.ofString "end") = true
   · rw [if_pos h2, if_pos h2]
     by_cases h3 : ro = 0
     · rw [if_pos h3, if_pos h3]; exact unM_P ks _ _ _ _
     · rw [if_neg h3, if_neg h3]
       by_cases h4 : ce = fi
       · rw [if_pos h4, if_pos h4]; exact unM_P ks _ _ _ _
       · rw [if_neg h4, if_neg h4]; rfl
   · rw [if_neg h2, if_neg h2]; exact unM_P ks _ _ _ _
theorem fallN_T (ev : Bool) (r : List Str × Str × Str × Option Str) : fallN ev r = (fallT ev r).isNone := by
 have he : (endT r).isNone = isS (lawW r) (Str.ofString "") := by
   unfold endT
   cases q : isS (lawW r) (Str.ofString "") with
   | true => rw [if_pos rfl]; rfl
   | false => rw [if_neg (by decide)]; rfl
 unfold fallN fallT
 cases ev with
 | false => rw [if_neg (by decide)]; show _ = (endT r).isNone; rw [he]; simp
 | true =>
   rw [if_pos rfl, unM_P r.1 0 0 1 0]
   cases q : unP 0 0 1 0 r.1 with
   | none => show _ = (endT r).isNone; rw [he]; simp
   | some ab => simp

theorem cut_from2 {xs : List V} {hi : Option Int} (h : 2 ≤ xs.length) : (cutV xs (some 2) hi).length ≤ xs.length - 2 := by
 unfold cutV
 have e : HT.sIx xs.length 0 (some 2) = 2 := by rw [show (some (2 : Int)) = some ((2 : Nat) : Int) from rfl, HT.sIx_nat]; omega
 rw [e, List.length_take, List.length_drop]
 omega

theorem imp_of {G : Prop} {P : Hp → Prop} {H : Hp} (h : (∀ H1, Same H H1 → P H1) → G) (h2 : ∀ H1, Same H H1 → P H1) : G := h h2

def LZ (z : Str) : List Str := (List.replicate 15 [z, Str.ofString "", z, Str.ofString "\n"]).flatten
theorem LZ_map (z : Str) : (List.replicate (Int.toNat 15) [V.str z, .str (Str.ofString ""), .str z, .str (Str.ofString "\n")]).flatten = (LZ z).map V.str := rfl
theorem LZ_len (z : Str) : (LZ z).length = 60 := rfl
theorem LZ_mem {z y : Str} (h : y ∈ LZ z) : y = z ∨ y = Str.ofString "" ∨ y = Str.ofString "\n" := by
 obtain ⟨l, hl, hy⟩ := List.mem_flatten.mp h
 rw [(List.mem_replicate.mp hl).2] at hy
 simp only [List.mem_cons, List.not_mem_nil, or_false] at hy
 rcases hy with h | h | h | h
 · exact .inl h
 · exact .inr (.inl h)
 · exact .inl h
 · exact .inr (.inr h)
theorem FndD.mono {ev : Bool} {z : Str} {cs : List Cho} {A H H' : Hp} {w v : V} (s : Same H H') (h : FndD ev z cs A H w v) : FndD ev z cs A H' w v := by
 rcases h with ⟨a, b, l, gs, c, d⟩ | ⟨a, b, fs, c, d, e⟩
 · exact .inl ⟨a, b, l, gs, c, d.mono s⟩
 · exact .inr ⟨a, b, fs, lastO.mono s c, d, e⟩
theorem fnd_same {K : PySem.W.Frag} {ev : Bool} {z : Str} {cs : List Cho} {A B H : Hp} {w v w' v' : V} (h1 : FndD ev z cs A H w v) (h2 : FndD ev z cs B H w' v') : SameD K H 4 w w' ∧ SameD K H 4 v v' := by
 rcases h1 with ⟨a, rfl, l, gs, rfl, t1⟩ | ⟨a, rfl, fs, l1, p1, q1⟩ <;> rcases h2 with ⟨a', rfl, l', gs', rfl, t2⟩ | ⟨a', rfl, fs', l2, p2, q2⟩
 · exact ⟨.flat rfl rfl (eqV_self rfl), .lst (SqL.of t1.ls) (SqL.of t2.ls) (tks_len t1 t2) (tks_sameD (n := 0) t1 t2)⟩
 · exact absurd a' a
 · exact absurd a a'
 · have e := one_rise p1 p2 q1 q2
   subst e
   exact ⟨.flat rfl rfl (eqV_self rfl), last_sameD l1 l2⟩
theorem fls_sameN {K : PySem.W.Frag} {H : Hp} {ps ps' : List V} {fs : List F4} {n : Nat} (f1 : Fls H ps fs) (f2 : Fls H ps' fs) : ∀ (j : Nat) x y, ps[j]? = some x → ps'[j]? = some y → SameD K H (n + 1) x y := fun j x y ex ey => by
 obtain ⟨r, hr, a, rfl, ha⟩ := paired_get f1 j x ex
 obtain ⟨r', hr', b, rfl, hb⟩ := paired_get f2 j y ey
 rw [hr] at hr'; cases hr'
 exact .tup (SqT.of ha) (SqT.of hb) rfl (same_selfF rfl)
structure Tri (z : Str) (cs : List Cho) (zs : List Str) (H : Hp) (tb : Addr) : Prop where
 ok : ∃ (t l q : Addr) (w v : V) (A : Hp) (ps : List V) (fs : List F4), H tb = some (.tup [.ref t, .ref l, .ref q]) ∧ H t = some (.tup [w, v]) ∧ FndD false z cs A H w v ∧ H l = some (.lst ps) ∧ Fls H ps fs ∧ fs.Perm (fallsM false z cs cs.length) ∧ fs.Pairwise (fun x y => encF x < encF y) ∧ H q = some (.lst (plcs false zs cs cs.length))
theorem Tri.mono {z : Str} {cs : List Cho} {zs : List Str} {H H' : Hp} {tb : Addr} (s : Same H H') (h : Tri z cs zs H tb) : Tri z cs zs H' tb := by
 obtain ⟨t, l, q, w, v, A, ps, fs, a, b, c, d, e, f, g, k⟩ := h.ok
 exact ⟨t, l, q, w, v, A, ps, fs, s _ _ a, s _ _ b, c.mono s, s _ _ d, Fls.mono s e, f, g, s _ _ k⟩
theorem tri_top {K : PySem.W.Frag} {z : Str} {cs : List Cho} {zs : List Str} {H : Hp} {tb tb' : Addr} (h1 : Tri z cs zs H tb) (h2 : Tri z cs zs H tb') : TopD K H (.ref tb) (.ref tb') := by
 obtain ⟨t, l, q, w, v, A, ps, fs, a, b, c, d, e, f, g, k⟩ := h1.ok
 obtain ⟨t', l', q', w', v', A', ps', fs', a', b', c', d', e', f', g', k'⟩ := h2.ok
 have ef := one_rise f f' g g'
 subst ef
 have sm := fnd_same (K := K) c c'
 refine ⟨5, tb, tb', [.ref t, .ref l, .ref q], [.ref t', .ref l', .ref q'], rfl, rfl, by decide, rfl, .inl ⟨SqT.of a, SqT.of a'⟩, fun j x y ex ey => ?_⟩
 match j, ex, ey with
 | 0, ex, ey => cases ex; cases ey; exact .tup (SqT.of b) (SqT.of b') rfl (tup2_sameD sm.1 sm.2)
 | 1, ex, ey => cases ex; cases ey; exact .lst (SqL.of d) (SqL.of d') (e.length.trans e'.length.symm) (fls_sameN e e')
 | 2, ex, ey => cases ex; cases ey; exact .lst (SqL.of k) (SqL.of k') rfl (same_selfF plcs_flat)
 | j + 3, ex, _ => cases ex

theorem sc_is_printable : FnScope ["sign", "number"] ["sign"] (defScope s_is_printable) := ⟨rfl, rfl, rfl, by decide +kernel, rfl, by decide +kernel, by decide +kernel⟩
theorem sc_has_signs_alone : FnScope ["text"] ["text"] (defScope s_has_signs_alone) := ⟨rfl, rfl, rfl, by decide +kernel, rfl, by decide +kernel, by decide +kernel⟩
theorem sc_is_text : FnScope ["thing"] ["thing"] (defScope s_is_text) := ⟨rfl, rfl, rfl, by decide +kernel, rfl, by decide +kernel, by decide +kernel⟩
theorem sc_are_unlike_signs : FnScope ["thing", "least", "most"] ["thing", "least", "most"] (defScope s_are_unlike_signs) := ⟨rfl, rfl, rfl, by decide +kernel, rfl, by decide +kernel, by decide +kernel⟩
theorem sc_Dialect___init__ : FnScope ["self", "parts", "quotes", "frees", "twin", "wide", "thin", "stray", "truth"] ["self", "parts", "quotes", "frees", "twin", "wide", "thin", "stray"] (defScope s_Dialect___init__) := ⟨rfl, rfl, rfl, by decide +kernel, rfl, by decide +kernel, by decide +kernel⟩
theorem sc_Dialect_told : FnScope ["self"] ["self"] (defScope s_Dialect_told) := ⟨rfl, rfl, rfl, by decide +kernel, rfl, by decide +kernel, by decide +kernel⟩
theorem sc_dialect_of : FnScope ["told"] ["told"] (defScope s_dialect_of) := ⟨rfl, rfl, rfl, by decide +kernel, rfl, by decide +kernel, by decide +kernel⟩
theorem sc_step_at_beginning : FnScope ["dialect", "state", "sign"] ["dialect", "state", "sign"] (defScope s_step_at_beginning) := ⟨rfl, rfl, rfl, by decide +kernel, rfl, by decide +kernel, by decide +kernel⟩
theorem sc_step_in_plain : FnScope ["dialect", "sign"] ["dialect", "sign"] (defScope s_step_in_plain) := ⟨rfl, rfl, rfl, by decide +kernel, rfl, by decide +kernel, by decide +kernel⟩
theorem sc_step_within : FnScope ["dialect", "quote", "sign"] ["dialect", "quote", "sign"] (defScope s_step_within) := ⟨rfl, rfl, rfl, by decide +kernel, rfl, by decide +kernel, by decide +kernel⟩
theorem sc_step_behind : FnScope ["dialect", "sign"] ["dialect", "sign"] (defScope s_step_behind) := ⟨rfl, rfl, rfl, by decide +kernel, rfl, by decide +kernel, by decide +kernel⟩
theorem sc_step_in_doubt : FnScope ["dialect", "quote", "sign"] ["dialect", "quote", "sign"] (defScope s_step_in_doubt) := ⟨rfl, rfl, rfl, by decide +kernel, rfl, by decide +kernel, by decide +kernel⟩
theorem sc_step_freed : FnScope ["dialect", "quote", "sign"] ["dialect", "quote", "sign"] (defScope s_step_freed) := ⟨rfl, rfl, rfl, by decide +kernel, rfl, by decide +kernel, by decide +kernel⟩
theorem sc_Turn___init__ : FnScope ["self", "dialect"] ["self", "dialect"] (defScope s_Turn___init__) := ⟨rfl, rfl, rfl, by decide +kernel, rfl, by decide +kernel, by decide +kernel⟩
theorem sc_Turn_step : FnScope ["self", "state", "sign", "word", "quote"] ["self", "state", "sign"] (defScope s_Turn_step) := ⟨rfl, rfl, rfl, by decide +kernel, rfl, by decide +kernel, by decide +kernel⟩
theorem sc_check_text : FnScope ["thing"] ["thing"] (defScope s_check_text) := ⟨rfl, rfl, rfl, by decide +kernel, rfl, by decide +kernel, by decide +kernel⟩
theorem sc_walk : FnScope ["dialect", "text", "turn", "kinds", "state", "sign", "step"] ["dialect", "text"] (defScope s_walk) := ⟨rfl, rfl, rfl, by decide +kernel, rfl, by decide +kernel, by decide +kernel⟩
theorem sc_end_of : FnScope ["walked", "kinds", "word"] ["walked"] (defScope s_end_of) := ⟨rfl, rfl, rfl, by decide +kernel, rfl, by decide +kernel, by decide +kernel⟩
theorem sc_table_of : FnScope ["text", "kinds", "table", "row", "cell", "sign", "kind"] ["text", "kinds"] (defScope s_table_of) := ⟨rfl, rfl, rfl, by decide +kernel, rfl, by decide +kernel, by decide +kernel⟩
theorem sc_uneven_row : FnScope ["kinds", "first", "row", "cells", "at", "kind"] ["kinds"] (defScope s_uneven_row) := ⟨rfl, rfl, rfl, by decide +kernel, rfl, by decide +kernel, by decide +kernel⟩
theorem sc_fall_of : FnScope ["walked", "even", "uneven"] ["walked", "even"] (defScope s_fall_of) := ⟨rfl, rfl, rfl, by decide +kernel, rfl, by decide +kernel, by decide +kernel⟩
theorem sc_fallen : FnScope ["dialects", "text", "even", "falls", "place", "dialect", "fall"] ["dialects", "text", "even"] (defScope s_fallen) := ⟨rfl, rfl, rfl, by decide +kernel, rfl, by decide +kernel, by decide +kernel⟩
theorem sc_takers : FnScope ["dialects", "text", "even", "found", "place", "dialect", "walked"] ["dialects", "text", "even"] (defScope s_takers) := ⟨rfl, rfl, rfl, by decide +kernel, rfl, by decide +kernel, by decide +kernel⟩
theorem sc_last_of : FnScope ["falls", "farthest"] ["falls"] (defScope s_last_of) := ⟨rfl, rfl, rfl, by decide +kernel, rfl, by decide +kernel, by decide +kernel⟩
theorem sc_finding : FnScope ["dialects", "text", "even", "found"] ["dialects", "text", "even"] (defScope s_finding) := ⟨rfl, rfl, rfl, by decide +kernel, rfl, by decide +kernel, by decide +kernel⟩
theorem sc_takes_all : FnScope ["dialect", "texts", "even", "text"] ["dialect", "texts", "even"] (defScope s_takes_all) := ⟨rfl, rfl, rfl, by decide +kernel, rfl, by decide +kernel, by decide +kernel⟩
theorem sc_found_all : FnScope ["dialects", "texts", "even", "text"] ["dialects", "texts", "even"] (defScope s_found_all) := ⟨rfl, rfl, rfl, by decide +kernel, rfl, by decide +kernel, by decide +kernel⟩
theorem sc_common : FnScope ["dialects", "text", "even", "tables"] ["dialects", "text", "even"] (defScope s_common) := ⟨rfl, rfl, rfl, by decide +kernel, rfl, by decide +kernel, by decide +kernel⟩
theorem sc__law_cell_at : FnScope ["_law_script", "_law_k"] ["_law_script", "_law_k"] (defScope s__law_cell_at) := ⟨rfl, rfl, rfl, by decide +kernel, rfl, by decide +kernel, by decide +kernel⟩
theorem sc__law_mixed : FnScope ["_law_number_here", "_law_salt", "_law_one", "_law_two"] ["_law_number_here", "_law_salt"] (defScope s__law_mixed) := ⟨rfl, rfl, rfl, by decide +kernel, rfl, by decide +kernel, by decide +kernel⟩
theorem sc__law_number : FnScope ["_law_cell", "_law_salt", "_law_number_here", "_law_high"] ["_law_cell", "_law_salt"] (defScope s__law_number) := ⟨rfl, rfl, rfl, by decide +kernel, rfl, by decide +kernel, by decide +kernel⟩
theorem sc__law_some : FnScope ["_law_number_here", "_law_many", "_law_menu_here", "_law_found", "_law_k", "_law_sign"] ["_law_number_here", "_law_many", "_law_menu_here"] (defScope s__law_some) := ⟨rfl, rfl, rfl, by decide +kernel, rfl, by decide +kernel, by decide +kernel⟩
theorem sc__law_menus : FnScope ["_law_way", "_law_every"] ["_law_way"] (defScope s__law_menus) := ⟨rfl, rfl, rfl, by decide +kernel, rfl, by decide +kernel, by decide +kernel⟩
theorem sc__law_told : FnScope ["_law_cell", "_law_number_here", "_law_flags_here", "_law_sizes", "_law_menus_here", "_law_parts", "_law_quotes", "_law_frees", "_law_truths"] ["_law_cell"] (defScope s__law_told) := ⟨rfl, rfl, rfl, by decide +kernel, rfl, by decide +kernel, by decide +kernel⟩
theorem sc__law_drawn : FnScope ["_law_cell", "_law_many", "_law_number_here", "_law_found", "_law_k"] ["_law_cell", "_law_many"] (defScope s__law_drawn) := ⟨rfl, rfl, rfl, by decide +kernel, rfl, by decide +kernel, by decide +kernel⟩
theorem sc__law_flags : FnScope ["_law_e", "_law_flags_here"] ["_law_e"] (defScope s__law_flags) := ⟨rfl, rfl, rfl, by decide +kernel, rfl, by decide +kernel, by decide +kernel⟩
theorem sc__law_near : FnScope ["_law_told_here", "_law_x", "_law_way", "_law_some_here"] ["_law_told_here", "_law_x"] (defScope s__law_near) := ⟨rfl, rfl, rfl, by decide +kernel, rfl, by decide +kernel, by decide +kernel⟩
theorem sc__law_tolds : FnScope ["_law_cells", "_law_many", "_law_tolds_here", "_law_k", "_law_cell", "_law_xs"] ["_law_cells", "_law_many"] (defScope s__law_tolds) := ⟨rfl, rfl, rfl, by decide +kernel, rfl, by decide +kernel, by decide +kernel⟩
theorem sc__law_menu : FnScope ["_law_tolds_here", "_law_menu_here", "_law_told_here", "_law_sign"] ["_law_tolds_here"] (defScope s__law_menu) := ⟨rfl, rfl, rfl, by decide +kernel, rfl, by decide +kernel, by decide +kernel⟩
theorem sc__law_text : FnScope ["_law_cell", "_law_tolds_here", "_law_most", "_law_xs", "_law_menu_here", "_law_text_here"] ["_law_cell", "_law_tolds_here", "_law_most"] (defScope s__law_text) := ⟨rfl, rfl, rfl, by decide +kernel, rfl, by decide +kernel, by decide +kernel⟩
theorem sc__law_no_text : FnScope ["_law_text_here", "_law_xs", "_law_cell", "_law_at", "_law_some_here"] ["_law_text_here", "_law_xs", "_law_cell"] (defScope s__law_no_text) := ⟨rfl, rfl, rfl, by decide +kernel, rfl, by decide +kernel, by decide +kernel⟩
theorem sc__law_refused : FnScope ["_law_dialects", "_law_wrong", "_law_texts", "_law_way", "_law_e"] ["_law_dialects", "_law_wrong", "_law_texts", "_law_way"] (defScope s__law_refused) := ⟨rfl, rfl, rfl, by decide +kernel, rfl, by decide +kernel, by decide +kernel⟩
theorem sc_law : FnScope ["_law_script", "_law_tolds_here", "_law_dialects", "_law_good", "_law_before", "_law_cell", "_law_xs", "_law_wrong", "_law_texts", "_law_way"] ["_law_script"] (defScope s_law) := ⟨rfl, rfl, rfl, by decide +kernel, rfl, by decide +kernel, by decide +kernel⟩
structure Txt (K : PySem.W.Frag) (mg : Str → Option Value) (f_NoName___init__ f_TooMany___init__ f_Broken___init__ f_NoWriting___init__ f_is_printable f_has_signs_alone f_is_text f_are_unlike_signs f_Dialect___init__ f_Dialect_told f_dialect_of f_step_at_beginning f_step_in_plain f_step_within f_step_behind f_step_in_doubt f_step_freed f_Turn___init__ f_Turn_step f_check_text f_walk f_end_of f_table_of f_uneven_row f_fall_of f_fallen f_takers f_last_of f_finding f_takes_all f_found_all f_common f__law_cell_at f__law_mixed f__law_number f__law_some f__law_menus f__law_told f__law_drawn f__law_flags f__law_near f__law_tolds f__law_menu f__law_text f__law_no_text f__law_refused f_law C_Dialect C_Turn C_DialectError N_DialectError C_NoText N_NoText C_NoTable N_NoTable C_NoDialect N_NoDialect C_NoFamily N_NoFamily C_NoMost N_NoMost C_NoAsk N_NoAsk C_NoRow N_NoRow C_NoName N_NoName C_TooMany N_TooMany C_Broken N_Broken C_NoWriting N_NoWriting a_START : Addr) (fd_NoName___init__ fd_TooMany___init__ fd_Broken___init__ fd_NoWriting___init__ fd_is_printable fd_has_signs_alone fd_is_text fd_are_unlike_signs fd_Dialect___init__ fd_Dialect_told fd_dialect_of fd_step_at_beginning fd_step_in_plain fd_step_within fd_step_behind fd_step_in_doubt fd_step_freed fd_Turn___init__ fd_Turn_step fd_check_text fd_walk fd_end_of fd_table_of fd_uneven_row fd_fall_of fd_fallen fd_takers fd_last_of fd_finding fd_takes_all fd_found_all fd_common fd__law_cell_at fd__law_mixed fd__law_number fd__law_some fd__law_menus fd__law_told fd__law_drawn fd__law_flags fd__law_near fd__law_tolds fd__law_menu fd__law_text fd__law_no_text fd__law_refused fd_law : FuncData) (z_LINE : Str) (dt_Dialect___init__ dt_fallen dt_finding dt_found_all dt_common : Addr) : Prop where
 F_NoName___init__ : Fun K "__init__" "NoName.__init__" s_NoName___init__ f_NoName___init__ fd_NoName___init__
 b_NoName___init__ : Binds K fd_NoName___init__ ["self", "name"] []
 F_TooMany___init__ : Fun K "__init__" "TooMany.__init__" s_TooMany___init__ f_TooMany___init__ fd_TooMany___init__
 b_TooMany___init__ : Binds K fd_TooMany___init__ ["self", "most"] []
 F_Broken___init__ : Fun K "__init__" "Broken.__init__" s_Broken___init__ f_Broken___init__ fd_Broken___init__
 b_Broken___init__ : Binds K fd_Broken___init__ ["self", "row", "place", "word"] []
 F_NoWriting___init__ : Fun K "__init__" "NoWriting.__init__" s_NoWriting___init__ f_NoWriting___init__ fd_NoWriting___init__
 b_NoWriting___init__ : Binds K fd_NoWriting___init__ ["self", "row", "cell"] []
 F_is_printable : Fun K "is_printable" "is_printable" s_is_printable f_is_printable fd_is_printable
 b_is_printable : Binds K fd_is_printable ["sign"] []
 g_is_printable : mg "is_printable" = some (.ref f_is_printable)
 F_has_signs_alone : Fun K "has_signs_alone" "has_signs_alone" s_has_signs_alone f_has_signs_alone fd_has_signs_alone
 b_has_signs_alone : Binds K fd_has_signs_alone ["text"] []
 g_has_signs_alone : mg "has_signs_alone" = some (.ref f_has_signs_alone)
 F_is_text : Fun K "is_text" "is_text" s_is_text f_is_text fd_is_text
 b_is_text : Binds K fd_is_text ["thing"] []
 g_is_text : mg "is_text" = some (.ref f_is_text)
 F_are_unlike_signs : Fun K "are_unlike_signs" "are_unlike_signs" s_are_unlike_signs f_are_unlike_signs fd_are_unlike_signs
 b_are_unlike_signs : Binds K fd_are_unlike_signs ["thing", "least", "most"] []
 g_are_unlike_signs : mg "are_unlike_signs" = some (.ref f_are_unlike_signs)
 F_Dialect___init__ : FunD K "__init__" "Dialect.__init__" s_Dialect___init__ f_Dialect___init__ fd_Dialect___init__ (.ref dt_Dialect___init__)
 b_Dialect___init__ : Binds K fd_Dialect___init__ ["self", "parts", "quotes", "frees", "twin", "wide", "thin", "stray"] []
 F_Dialect_told : Fun K "told" "Dialect.told" s_Dialect_told f_Dialect_told fd_Dialect_told
 b_Dialect_told : Binds K fd_Dialect_told ["self"] []
 m_Dialect_told : Meth K C_Dialect "told" f_Dialect_told
 F_dialect_of : Fun K "dialect_of" "dialect_of" s_dialect_of f_dialect_of fd_dialect_of
 b_dialect_of : Binds K fd_dialect_of ["told"] []
 g_dialect_of : mg "dialect_of" = some (.ref f_dialect_of)
 F_step_at_beginning : Fun K "step_at_beginning" "step_at_beginning" s_step_at_beginning f_step_at_beginning fd_step_at_beginning
 b_step_at_beginning : Binds K fd_step_at_beginning ["dialect", "state", "sign"] []
 g_step_at_beginning : mg "step_at_beginning" = some (.ref f_step_at_beginning)
 F_step_in_plain : Fun K "step_in_plain" "step_in_plain" s_step_in_plain f_step_in_plain fd_step_in_plain
 b_step_in_plain : Binds K fd_step_in_plain ["dialect", "sign"] []
 g_step_in_plain : mg "step_in_plain" = some (.ref f_step_in_plain)
 F_step_within : Fun K "step_within" "step_within" s_step_within f_step_within fd_step_within
 b_step_within : Binds K fd_step_within ["dialect", "quote", "sign"] []
 g_step_within : mg "step_within" = some (.ref f_step_within)
 F_step_behind : Fun K "step_behind" "step_behind" s_step_behind f_step_behind fd_step_behind
 b_step_behind : Binds K fd_step_behind ["dialect", "sign"] []
 g_step_behind : mg "step_behind" = some (.ref f_step_behind)
 F_step_in_doubt : Fun K "step_in_doubt" "step_in_doubt" s_step_in_doubt f_step_in_doubt fd_step_in_doubt
 b_step_in_doubt : Binds K fd_step_in_doubt ["dialect", "quote", "sign"] []
 g_step_in_doubt : mg "step_in_doubt" = some (.ref f_step_in_doubt)
 F_step_freed : Fun K "step_freed" "step_freed" s_step_freed f_step_freed fd_step_freed
 b_step_freed : Binds K fd_step_freed ["dialect", "quote", "sign"] []
 g_step_freed : mg "step_freed" = some (.ref f_step_freed)
 F_Turn___init__ : Fun K "__init__" "Turn.__init__" s_Turn___init__ f_Turn___init__ fd_Turn___init__
 b_Turn___init__ : Binds K fd_Turn___init__ ["self", "dialect"] []
 F_Turn_step : Fun K "step" "Turn.step" s_Turn_step f_Turn_step fd_Turn_step
 b_Turn_step : Binds K fd_Turn_step ["self", "state", "sign"] []
 m_Turn_step : Meth K C_Turn "step" f_Turn_step
 F_check_text : Fun K "check_text" "check_text" s_check_text f_check_text fd_check_text
 b_check_text : Binds K fd_check_text ["thing"] []
 g_check_text : mg "check_text" = some (.ref f_check_text)
 F_walk : Fun K "walk" "walk" s_walk f_walk fd_walk
 b_walk : Binds K fd_walk ["dialect", "text"] []
 g_walk : mg "walk" = some (.ref f_walk)
 F_end_of : Fun K "end_of" "end_of" s_end_of f_end_of fd_end_of
 b_end_of : Binds K fd_end_of ["walked"] []
 g_end_of : mg "end_of" = some (.ref f_end_of)
 F_table_of : Fun K "table_of" "table_of" s_table_of f_table_of fd_table_of
 b_table_of : Binds K fd_table_of ["text", "kinds"] []
 g_table_of : mg "table_of" = some (.ref f_table_of)
 F_uneven_row : Fun K "uneven_row" "uneven_row" s_uneven_row f_uneven_row fd_uneven_row
 b_uneven_row : Binds K fd_uneven_row ["kinds"] []
 g_uneven_row : mg "uneven_row" = some (.ref f_uneven_row)
 F_fall_of : Fun K "fall_of" "fall_of" s_fall_of f_fall_of fd_fall_of
 b_fall_of : Binds K fd_fall_of ["walked", "even"] []
 g_fall_of : mg "fall_of" = some (.ref f_fall_of)
 F_fallen : FunD K "fallen" "fallen" s_fallen f_fallen fd_fallen (.ref dt_fallen)
 b_fallen : Binds K fd_fallen ["dialects", "text", "even"] []
 g_fallen : mg "fallen" = some (.ref f_fallen)
 F_takers : Fun K "takers" "takers" s_takers f_takers fd_takers
 b_takers : Binds K fd_takers ["dialects", "text", "even"] []
 g_takers : mg "takers" = some (.ref f_takers)
 F_last_of : Fun K "last_of" "last_of" s_last_of f_last_of fd_last_of
 b_last_of : Binds K fd_last_of ["falls"] []
 g_last_of : mg "last_of" = some (.ref f_last_of)
 F_finding : FunD K "finding" "finding" s_finding f_finding fd_finding (.ref dt_finding)
 b_finding : Binds K fd_finding ["dialects", "text", "even"] []
 g_finding : mg "finding" = some (.ref f_finding)
 F_takes_all : Fun K "takes_all" "takes_all" s_takes_all f_takes_all fd_takes_all
 b_takes_all : Binds K fd_takes_all ["dialect", "texts", "even"] []
 g_takes_all : mg "takes_all" = some (.ref f_takes_all)
 F_found_all : FunD K "found_all" "found_all" s_found_all f_found_all fd_found_all (.ref dt_found_all)
 b_found_all : Binds K fd_found_all ["dialects", "texts", "even"] []
 g_found_all : mg "found_all" = some (.ref f_found_all)
 F_common : FunD K "common" "common" s_common f_common fd_common (.ref dt_common)
 b_common : Binds K fd_common ["dialects", "text", "even"] []
 g_common : mg "common" = some (.ref f_common)
 F__law_cell_at : Fun K "_law_cell_at" "_law_cell_at" s__law_cell_at f__law_cell_at fd__law_cell_at
 b__law_cell_at : Binds K fd__law_cell_at ["_law_script", "_law_k"] []
 g__law_cell_at : mg "_law_cell_at" = some (.ref f__law_cell_at)
 F__law_mixed : Fun K "_law_mixed" "_law_mixed" s__law_mixed f__law_mixed fd__law_mixed
 b__law_mixed : Binds K fd__law_mixed ["_law_number_here", "_law_salt"] []
 g__law_mixed : mg "_law_mixed" = some (.ref f__law_mixed)
 F__law_number : Fun K "_law_number" "_law_number" s__law_number f__law_number fd__law_number
 b__law_number : Binds K fd__law_number ["_law_cell", "_law_salt"] []
 g__law_number : mg "_law_number" = some (.ref f__law_number)
 F__law_some : Fun K "_law_some" "_law_some" s__law_some f__law_some fd__law_some
 b__law_some : Binds K fd__law_some ["_law_number_here", "_law_many", "_law_menu_here"] []
 g__law_some : mg "_law_some" = some (.ref f__law_some)
 F__law_menus : Fun K "_law_menus" "_law_menus" s__law_menus f__law_menus fd__law_menus
 b__law_menus : Binds K fd__law_menus ["_law_way"] []
 g__law_menus : mg "_law_menus" = some (.ref f__law_menus)
 F__law_told : Fun K "_law_told" "_law_told" s__law_told f__law_told fd__law_told
 b__law_told : Binds K fd__law_told ["_law_cell"] []
 g__law_told : mg "_law_told" = some (.ref f__law_told)
 F__law_drawn : Fun K "_law_drawn" "_law_drawn" s__law_drawn f__law_drawn fd__law_drawn
 b__law_drawn : Binds K fd__law_drawn ["_law_cell", "_law_many"] []
 g__law_drawn : mg "_law_drawn" = some (.ref f__law_drawn)
 F__law_flags : Fun K "_law_flags" "_law_flags" s__law_flags f__law_flags fd__law_flags
 b__law_flags : Binds K fd__law_flags ["_law_e"] []
 g__law_flags : mg "_law_flags" = some (.ref f__law_flags)
 F__law_near : Fun K "_law_near" "_law_near" s__law_near f__law_near fd__law_near
 b__law_near : Binds K fd__law_near ["_law_told_here", "_law_x"] []
 g__law_near : mg "_law_near" = some (.ref f__law_near)
 F__law_tolds : Fun K "_law_tolds" "_law_tolds" s__law_tolds f__law_tolds fd__law_tolds
 b__law_tolds : Binds K fd__law_tolds ["_law_cells", "_law_many"] []
 g__law_tolds : mg "_law_tolds" = some (.ref f__law_tolds)
 F__law_menu : Fun K "_law_menu" "_law_menu" s__law_menu f__law_menu fd__law_menu
 b__law_menu : Binds K fd__law_menu ["_law_tolds_here"] []
 g__law_menu : mg "_law_menu" = some (.ref f__law_menu)
 F__law_text : Fun K "_law_text" "_law_text" s__law_text f__law_text fd__law_text
 b__law_text : Binds K fd__law_text ["_law_cell", "_law_tolds_here", "_law_most"] []
 g__law_text : mg "_law_text" = some (.ref f__law_text)
 F__law_no_text : Fun K "_law_no_text" "_law_no_text" s__law_no_text f__law_no_text fd__law_no_text
 b__law_no_text : Binds K fd__law_no_text ["_law_text_here", "_law_xs", "_law_cell"] []
 g__law_no_text : mg "_law_no_text" = some (.ref f__law_no_text)
 F__law_refused : Fun K "_law_refused" "_law_refused" s__law_refused f__law_refused fd__law_refused
 b__law_refused : Binds K fd__law_refused ["_law_dialects", "_law_wrong", "_law_texts", "_law_way"] []
 g__law_refused : mg "_law_refused" = some (.ref f__law_refused)
 F_law : Fun K "law" "law" s_law f_law fd_law
 b_law : Binds K fd_law ["_law_script"] []
 g_law : mg "law" = some (.ref f_law)
 cl_Dialect : Cls K C_Dialect
 g_Dialect : mg "Dialect" = some (.ref C_Dialect)
 M_Dialect : Mk K C_Dialect f_Dialect___init__
 n_Dialect_parts : NoAttr K C_Dialect "parts"
 n_Dialect_quotes : NoAttr K C_Dialect "quotes"
 n_Dialect_frees : NoAttr K C_Dialect "frees"
 n_Dialect_twin : NoAttr K C_Dialect "twin"
 n_Dialect_wide : NoAttr K C_Dialect "wide"
 n_Dialect_thin : NoAttr K C_Dialect "thin"
 n_Dialect_stray : NoAttr K C_Dialect "stray"
 cl_Turn : Cls K C_Turn
 g_Turn : mg "Turn" = some (.ref C_Turn)
 M_Turn : Mk K C_Turn f_Turn___init__
 n_Turn_dialect : NoAttr K C_Turn "dialect"
 bf_finding_0 : ∃ ds, Vals [V.bl false] ds ∧ Binds K fd_finding ["dialects", "text", "even"] ds
 bf_common_1 : ∃ ds, Vals [V.bl false] ds ∧ Binds K fd_common ["dialects", "text", "even"] ds
 bf_found_all_2 : ∃ ds, Vals [V.bl false] ds ∧ Binds K fd_found_all ["dialects", "texts", "even"] ds
 bf_fallen_3 : ∃ ds, Vals [V.bl false] ds ∧ Binds K fd_fallen ["dialects", "text", "even"] ds
 g_DialectError : mg "DialectError" = some (.ref C_DialectError)
 x_DialectError : XCl K C_DialectError N_DialectError bmVE none
 xi_DialectError : XIn K C_DialectError
 g_NoText : mg "NoText" = some (.ref C_NoText)
 x_NoText : XCl K C_NoText N_NoText (.ref C_DialectError :: bmVE) none
 g_NoTable : mg "NoTable" = some (.ref C_NoTable)
 x_NoTable : XCl K C_NoTable N_NoTable (.ref C_DialectError :: bmVE) none
 g_NoDialect : mg "NoDialect" = some (.ref C_NoDialect)
 x_NoDialect : XCl K C_NoDialect N_NoDialect (.ref C_DialectError :: bmVE) none
 g_NoFamily : mg "NoFamily" = some (.ref C_NoFamily)
 x_NoFamily : XCl K C_NoFamily N_NoFamily (.ref C_DialectError :: bmVE) none
 g_NoMost : mg "NoMost" = some (.ref C_NoMost)
 x_NoMost : XCl K C_NoMost N_NoMost (.ref C_DialectError :: bmVE) none
 g_NoAsk : mg "NoAsk" = some (.ref C_NoAsk)
 x_NoAsk : XCl K C_NoAsk N_NoAsk (.ref C_DialectError :: bmVE) none
 g_NoRow : mg "NoRow" = some (.ref C_NoRow)
 x_NoRow : XCl K C_NoRow N_NoRow (.ref C_DialectError :: bmVE) none
 g_NoName : mg "NoName" = some (.ref C_NoName)
 x_NoName : XCl K C_NoName N_NoName (.ref C_DialectError :: bmVE) (some (.ref f_NoName___init__))
 kpx_NoName : PySem.W.keepIn K (.ref C_NoName) = true
 lf_NoName : ∃ oI : Obj, K.lookup f_NoName___init__ = some oI ∧ oI.cls = .type "function"
 xa_NoName_name : XAt K C_NoName "name"
 g_TooMany : mg "TooMany" = some (.ref C_TooMany)
 x_TooMany : XCl K C_TooMany N_TooMany (.ref C_DialectError :: bmVE) (some (.ref f_TooMany___init__))
 kpx_TooMany : PySem.W.keepIn K (.ref C_TooMany) = true
 lf_TooMany : ∃ oI : Obj, K.lookup f_TooMany___init__ = some oI ∧ oI.cls = .type "function"
 xa_TooMany_most : XAt K C_TooMany "most"
 g_Broken : mg "Broken" = some (.ref C_Broken)
 x_Broken : XCl K C_Broken N_Broken (.ref C_DialectError :: bmVE) (some (.ref f_Broken___init__))
 kpx_Broken : PySem.W.keepIn K (.ref C_Broken) = true
 lf_Broken : ∃ oI : Obj, K.lookup f_Broken___init__ = some oI ∧ oI.cls = .type "function"
 xa_Broken_row : XAt K C_Broken "row"
 xa_Broken_place : XAt K C_Broken "place"
 xa_Broken_word : XAt K C_Broken "word"
 g_NoWriting : mg "NoWriting" = some (.ref C_NoWriting)
 x_NoWriting : XCl K C_NoWriting N_NoWriting (.ref C_DialectError :: bmVE) (some (.ref f_NoWriting___init__))
 kpx_NoWriting : PySem.W.keepIn K (.ref C_NoWriting) = true
 lf_NoWriting : ∃ oI : Obj, K.lookup f_NoWriting___init__ = some oI ∧ oI.cls = .type "function"
 xa_NoWriting_row : XAt K C_NoWriting "row"
 xa_NoWriting_cell : XAt K C_NoWriting "cell"
 xk_NoText : XKl K C_NoText
 kpx_NoText : PySem.W.keepIn K (.ref C_NoText) = true
 kv_NoText : PySem.W.kitOne K (.ref C_NoText) (.type "ValueError") = some true
 ki_NoText_DialectError : PySem.W.kitOne K (.ref C_NoText) (.ref C_DialectError) = some true
 ki_NoText_NoText : PySem.W.kitOne K (.ref C_NoText) (.ref C_NoText) = some true
 ki_NoText_NoTable : PySem.W.kitOne K (.ref C_NoText) (.ref C_NoTable) = some false
 ki_NoText_NoDialect : PySem.W.kitOne K (.ref C_NoText) (.ref C_NoDialect) = some false
 ki_NoText_NoFamily : PySem.W.kitOne K (.ref C_NoText) (.ref C_NoFamily) = some false
 ki_NoText_NoMost : PySem.W.kitOne K (.ref C_NoText) (.ref C_NoMost) = some false
 ki_NoText_NoAsk : PySem.W.kitOne K (.ref C_NoText) (.ref C_NoAsk) = some false
 ki_NoText_NoRow : PySem.W.kitOne K (.ref C_NoText) (.ref C_NoRow) = some false
 ki_NoText_NoName : PySem.W.kitOne K (.ref C_NoText) (.ref C_NoName) = some false
 ki_NoText_TooMany : PySem.W.kitOne K (.ref C_NoText) (.ref C_TooMany) = some false
 ki_NoText_Broken : PySem.W.kitOne K (.ref C_NoText) (.ref C_Broken) = some false
 ki_NoText_NoWriting : PySem.W.kitOne K (.ref C_NoText) (.ref C_NoWriting) = some false
 no_ValueError : mg "ValueError" = none
 no_all : mg "all" = none
 no_any : mg "any" = none
 no_bool : mg "bool" = none
 no_enumerate : mg "enumerate" = none
 no_isinstance : mg "isinstance" = none
 no_len : mg "len" = none
 no_list : mg "list" = none
 no_max : mg "max" = none
 no_ord : mg "ord" = none
 no_range : mg "range" = none
 no_sorted : mg "sorted" = none
 no_str : mg "str" = none
 no_tuple : mg "tuple" = none
 no_zip : mg "zip" = none
 gl_LINE : ∃ t, mg "LINE" = some (.str z_LINE t)
 zl_LINE : z_LINE = Str.ofString "\n"
 gl_MOST_SIGNS : ∃ t, mg "MOST_SIGNS" = some (.int 2000 t)
 gl_START : mg "START" = some (.ref a_START)
 tu_START : ∃ (o : Obj) (its : Array Value) (n : Nat), K.lookup a_START = some o ∧ o.cls = .type "tuple" ∧ o.data = .seq its n ∧ its.size ≤ sizeLine ∧ Vals [.str (Str.ofString "row"), .str (Str.ofString "")] its.toList
section
variable {P : Program} {w : World} {K : PySem.W.Frag} {mg : Str → Option Value} {base : Heap} {f_NoName___init__ f_TooMany___init__ f_Broken___init__ f_NoWriting___init__ f_is_printable f_has_signs_alone f_is_text f_are_unlike_signs f_Dialect___init__ f_Dialect_told f_dialect_of f_step_at_beginning f_step_in_plain f_step_within f_step_behind f_step_in_doubt f_step_freed f_Turn___init__ f_Turn_step f_check_text f_walk f_end_of f_table_of f_uneven_row f_fall_of f_fallen f_takers f_last_of f_finding f_takes_all f_found_all f_common f__law_cell_at f__law_mixed f__law_number f__law_some f__law_menus f__law_told f__law_drawn f__law_flags f__law_near f__law_tolds f__law_menu f__law_text f__law_no_text f__law_refused f_law C_Dialect C_Turn C_DialectError N_DialectError C_NoText N_NoText C_NoTable N_NoTable C_NoDialect N_NoDialect C_NoFamily N_NoFamily C_NoMost N_NoMost C_NoAsk N_NoAsk C_NoRow N_NoRow C_NoName N_NoName C_TooMany N_TooMany C_Broken N_Broken C_NoWriting N_NoWriting a_START : Addr} {fd_NoName___init__ fd_TooMany___init__ fd_Broken___init__ fd_NoWriting___init__ fd_is_printable fd_has_signs_alone fd_is_text fd_are_unlike_signs fd_Dialect___init__ fd_Dialect_told fd_dialect_of fd_step_at_beginning fd_step_in_plain fd_step_within fd_step_behind fd_step_in_doubt fd_step_freed fd_Turn___init__ fd_Turn_step fd_check_text fd_walk fd_end_of fd_table_of fd_uneven_row fd_fall_of fd_fallen fd_takers fd_last_of fd_finding fd_takes_all fd_found_all fd_common fd__law_cell_at fd__law_mixed fd__law_number fd__law_some fd__law_menus fd__law_told fd__law_drawn fd__law_flags fd__law_near fd__law_tolds fd__law_menu fd__law_text fd__law_no_text fd__law_refused fd_law : FuncData} {z_LINE : Str} {dt_Dialect___init__ dt_fallen dt_finding dt_found_all dt_common : Addr}
def sp_is_printable : Sp := fun vs H Q _ => ∃ c : Nat, vs = [.str (sg c)] ∧ Q (.bl (decide (Pn c))) H
section
variable (T : Txt K mg f_NoName___init__ f_TooMany___init__ f_Broken___init__ f_NoWriting___init__ f_is_printable f_has_signs_alone f_is_text f_are_unlike_signs f_Dialect___init__ f_Dialect_told f_dialect_of f_step_at_beginning f_step_in_plain f_step_within f_step_behind f_step_in_doubt f_step_freed f_Turn___init__ f_Turn_step f_check_text f_walk f_end_of f_table_of f_uneven_row f_fall_of f_fallen f_takers f_last_of f_finding f_takes_all f_found_all f_common f__law_cell_at f__law_mixed f__law_number f__law_some f__law_menus f__law_told f__law_drawn f__law_flags f__law_near f__law_tolds f__law_menu f__law_text f__law_no_text f__law_refused f_law C_Dialect C_Turn C_DialectError N_DialectError C_NoText N_NoText C_NoTable N_NoTable C_NoDialect N_NoDialect C_NoFamily N_NoFamily C_NoMost N_NoMost C_NoAsk N_NoAsk C_NoRow N_NoRow C_NoName N_NoName C_TooMany N_TooMany C_Broken N_Broken C_NoWriting N_NoWriting a_START fd_NoName___init__ fd_TooMany___init__ fd_Broken___init__ fd_NoWriting___init__ fd_is_printable fd_has_signs_alone fd_is_text fd_are_unlike_signs fd_Dialect___init__ fd_Dialect_told fd_dialect_of fd_step_at_beginning fd_step_in_plain fd_step_within fd_step_behind fd_step_in_doubt fd_step_freed fd_Turn___init__ fd_Turn_step fd_check_text fd_walk fd_end_of fd_table_of fd_uneven_row fd_fall_of fd_fallen fd_takers fd_last_of fd_finding fd_takes_all fd_found_all fd_common fd__law_cell_at fd__law_mixed fd__law_number fd__law_some fd__law_menus fd__law_told fd__law_drawn fd__law_flags fd__law_near fd__law_tolds fd__law_menu fd__law_text fd__law_no_text fd__law_refused fd_law z_LINE dt_Dialect___init__ dt_fallen dt_finding dt_found_all dt_common)
include T
theorem ok_is_printable : FnOk P w K mg base CX0 1 f_is_printable fd_is_printable ["sign"] sp_is_printable := by
 refine T.F_is_printable.ok sc_is_printable (fun vs H Q E h => ?_) (fun cdv A outer s H vs Q E hr h => ?_)
 · obtain ⟨c, rfl, _⟩ := h; rfl
 · have hu := hu_of hr
   have hu0 := hr.units0
   obtain ⟨c, rfl, k⟩ := h
   refine ⟨_, (pss_cons (ps_set (i := 1) sc_is_printable.nd rfl (by first | exact Or.inl rfl | exact Or.inr rfl) (pe_callB call_ord rfl T.no_ord (by decide +kernel) (pa_cons (pv 0) pa_nil)))
     (pss_one (ps_ret (pe_and (pe_cmpR op_ge (pv 1) pe_int (nomark _)) (pe_and (pe_cmpR op_le (pv 1) pe_int (nomark _)) (pe_one (pe_cmpR op_ne (pv 1) pe_int (nomark _)))))))), ?_⟩
   refine ⟨_, rfl, _, rfl, rfl, ?_⟩
   refine ⟨_, rfl, _, _, rfl, rfl, _, rfl, ite2 (fun h1 => ?_) (fun h1 => ?_)⟩
   · have h1 : (32 : Int) ≤ ((c : Nat) : Int) := of_decide_eq_true h1
     refine ⟨_, rfl, _, _, rfl, rfl, _, rfl, ite2 (fun h2 => ?_) (fun h2 => ?_)⟩
     · have h2 : ((c : Nat) : Int) ≤ 126 := of_decide_eq_true h2
       refine ⟨_, rfl, rfl, ?_⟩
       have e : (!decide (V.int ((c : Nat) : Int) = V.int 37)) = decide (Pn c) := by
         by_cases h3 : c = 37
         · subst h3; decide
         · have n1 : ¬ (V.int ((c : Nat) : Int) = V.int 37) := fun z => h3 (by injection z with z; omega)
           rw [decide_eq_false n1, decide_eq_true (show Pn c from ⟨by omega, by omega, h3⟩)]; rfl
       show Q (.bl (!decide (V.int ((c : Nat) : Int) = V.int 37))) H
       rw [e]; exact k
     · have e : decide (((c : Nat) : Int) ≤ 126) = decide (Pn c) := by
         have n1 : ¬ ((c : Nat) : Int) ≤ 126 := fun z => h2 (decide_eq_true z)
         rw [decide_eq_false n1, decide_eq_false (fun z : Pn c => n1 (by have := z.2.1; omega))]
       rw [← e, show decide (((c : Nat) : Int) ≤ 126) = false from Bool.eq_false_iff.mpr h2] at k
       exact k
   · have e : decide ((32 : Int) ≤ ((c : Nat) : Int)) = decide (Pn c) := by
       have n1 : ¬ (32 : Int) ≤ ((c : Nat) : Int) := fun z => h1 (decide_eq_true z)
       rw [decide_eq_false n1, decide_eq_false (fun z : Pn c => n1 (by have := z.1; omega))]
     rw [← e, show decide ((32 : Int) ≤ ((c : Nat) : Int)) = false from Bool.eq_false_iff.mpr h1] at k
     exact k
def sp_has_signs_alone : Sp := fun vs H Q _ => ∃ z : Str, vs = [.str z] ∧ z.length ≤ 2000 ∧ ∀ H', Same H H' → Q (.bl (textOk z)) H'
theorem ok_has_signs_alone : FnOk P w K mg base CX0 2 f_has_signs_alone fd_has_signs_alone ["text"] sp_has_signs_alone := by
 have G_is_printable : FnOk P w K mg base CX0 1 f_is_printable fd_is_printable ["sign"] sp_is_printable := ok_is_printable T
 refine T.F_has_signs_alone.ok sc_has_signs_alone (fun vs H Q E h => ?_) (fun cdv A outer s H vs Q E hr h => ?_)
 · obtain ⟨z, rfl, _⟩ := h; rfl
 · have hu := hu_of hr
   have hu0 := hr.units0
   obtain ⟨z, rfl, hz, k⟩ := h
   refine ⟨_, (pss_one (ps_ret (pe_callB (callK_all K rfl rfl) rfl T.no_all (by decide +kernel) (pa_cons (pe_comp rfl (show CompScope ["text"] (defScope s_has_signs_alone) ["sign"] 1 [] _ from ⟨rfl, by decide +kernel, by decide +kernel, by decide +kernel, by decide +kernel, rfl, rfl, by decide +kernel⟩) (pi_str (pv 0)) (fun _ _ _ _ => (pg_name (i := 0) (show (["sign"] : List Str).Nodup by decide +kernel) rfl (by first | exact Or.inl rfl | exact Or.inr rfl))) (fun _ _ _ _ => pif_nil) (fun _ _ _ _ => (pe_or (pe_cmpR op_eq (pv 0) (pe_gstr rfl T.gl_LINE.choose_spec) (nomark _)) (pe_one (pe_call (k := 1) G_is_printable (hr.mono (by decide)) rfl T.g_is_printable T.F_is_printable.kp T.b_is_printable .nil pass0 (pa_cons (pv 0) pa_nil)))))) pa_nil)))), ?_⟩
   refine ⟨_, rfl, z, rfl, fun D hD => ?_⟩
   have hsz : z.cps.toList.length = z.length := by rw [Array.length_toList]; rfl
   refine comp_str (fun i ys τ H2 => (∃ v, τ = [v]) ∧ Same H H2 ∧ H2 D = some (.lst ys) ∧ ys = ((z.cps.toList.take i).map okc).map V.bl) ⟨⟨_, rfl⟩, same_new hD, upd_same, rfl⟩ (fun i ys τ H2 _ p => p.2.2.1) ?_ ?_
   · rintro i c ys τ H2 hi ⟨⟨v, rfl⟩, s2, hl, rfl⟩
     have hil : i < z.cps.toList.length := (List.getElem?_eq_some_iff.mp hi).1
     have hlen : (((z.cps.toList.take i).map okc).map V.bl).length < sizeLine := by
       rw [List.length_map, List.length_map, List.length_take]
       exact Nat.lt_of_le_of_lt (show min i z.cps.toList.length ≤ 2000 by omega) (by decide)
     have fin : ∀ b, b = okc c → H2 D = some (.lst (((z.cps.toList.take i).map okc).map V.bl)) ∧ (((z.cps.toList.take i).map okc).map V.bl).length < sizeLine ∧ (∃ v, [some (V.str (sg c))] = [v]) ∧ Same H (upd H2 D (.lst (((z.cps.toList.take i).map okc).map V.bl ++ [.bl b]))) ∧ (upd H2 D (.lst (((z.cps.toList.take i).map okc).map V.bl ++ [.bl b]))) D = some (.lst (((z.cps.toList.take i).map okc).map V.bl ++ [.bl b])) ∧ ((z.cps.toList.take i).map okc).map V.bl ++ [.bl b] = ((z.cps.toList.take (i + 1)).map okc).map V.bl := fun b hb => by
       refine ⟨hl, hlen, ⟨_, rfl⟩, same_set hD s2, upd_same, ?_⟩
       rw [take_snocG hi, List.map_append, List.map_append, hb]; rfl
     refine gyes ?_
     refine ⟨_, rfl, rfl, _, rfl, ite2 (fun h => ?_) (fun h => ?_)⟩
     · have h : decide (V.str (sg c) = V.str z_LINE) = true := h
       have hc : c = 10 := by
         have e := of_decide_eq_true h
         rw [T.zl_LINE] at e
         have e2 : sg c = sg 10 := (V.str.inj e).trans (by decide +kernel)
         have := congrArg (fun z : Str => z.cps.toList) e2
         exact (List.cons.inj (show [c] = [10] from this)).1
       exact fin true (by rw [hc]; exact (decide_eq_true (.inl rfl)).symm)
     · have hc : c ≠ 10 := sgL T.zl_LINE h
       refine ⟨_, rfl, c, rfl, fin _ ?_⟩
       unfold okc
       by_cases hp : Pn c
       · rw [decide_eq_true hp, decide_eq_true (.inr hp)]
       · rw [decide_eq_false hp, decide_eq_false (fun z => z.elim hc hp)]
   · rintro ys τ H2 ⟨⟨v, rfl⟩, s2, hl, rfl⟩
     refine ⟨D, (z.cps.toList.take z.cps.toList.length).map okc, rfl, SqL.of hl, ?_⟩
     have e : ((z.cps.toList.take z.cps.toList.length).map okc).all id = textOk z := by
       rw [List.take_of_length_le (Nat.le_refl _), List.all_map]; rfl
     rw [e]
     exact k H2 s2
def sp_is_text (K : PySem.W.Frag) : Sp := fun vs H Q _ => ∃ v : V, vs = [v] ∧ Knd H v ∧ (∀ z, v = .str z → z.length ≤ 10000) ∧ ∀ H', Same H H' → Q (.bl (isT v)) H'
theorem ok_is_text : FnOk P w K mg base CX0 3 f_is_text fd_is_text ["thing"] (sp_is_text K) := by
 have G_has_signs_alone : FnOk P w K mg base CX0 2 f_has_signs_alone fd_has_signs_alone ["text"] sp_has_signs_alone := ok_has_signs_alone T
 refine T.F_is_text.ok sc_is_text (fun vs H Q E h => ?_) (fun cdv A outer s H vs Q E hr h => ?_)
 · obtain ⟨v, rfl, _⟩ := h; rfl
 · have hu := hu_of hr
   have hu0 := hr.units0
   obtain ⟨v, rfl, hk, hb, k⟩ := h
   refine ⟨_, (pss_cons (ps_if (PW.pt (pw_or (pt_not (pt_val (pe_callB (callK_isinst K rfl) rfl T.no_isinstance (by decide +kernel) (pa_cons (pv 0) (pa_cons (pe_bty "str" rfl T.no_str (by decide +kernel)) pa_nil))))) (pw_or1 (pt_cmpR op_gt (pe_callB call_len_str rfl T.no_len (by decide +kernel) (pa_cons (pv 0) pa_nil)) (pe_gint rfl T.gl_MOST_SIGNS.choose_spec) (nomark _))))) (pss_one (ps_ret pe_bl)) pss_nil)
     (pss_one (ps_ret (pe_call (k := 2) G_has_signs_alone (hr.mono (by decide)) rfl T.g_has_signs_alone T.F_has_signs_alone.kp T.b_has_signs_alone .nil pass0 (pa_cons (pv 0) pa_nil))))), ?_⟩
   cases hk with
   | str z =>
     have hb := hb z rfl
     refine ⟨_, rfl, _, _, _, true, rfl, .str _, .inl ⟨_, rfl, rfl⟩, true, rfl, iteF ⟨_, rfl, z, rfl, Nat.le_trans hb (by decide), _, _, rfl, rfl, _, rfl, ite2 (fun h1 => ?_) (fun h1 => ?_)⟩⟩
     · have e : isT (.str z) = false := by
         have n1 : ¬ z.length ≤ 2000 := fun h2 => by have := of_decide_eq_true h1; omega
         show (decide (z.length ≤ 2000) && textOk z) = false
         rw [decide_eq_false n1]; rfl
       have kk := k H (Same.refl H)
       rw [e] at kk
       exact kk
     · have n1 : z.length ≤ 2000 := by
         rcases Nat.lt_or_ge 2000 z.length with h2 | h2
         · exact absurd (decide_eq_true (show (2000 : Int) < (z.length : Int) by omega)) h1
         · exact h2
       have e : isT (.str z) = textOk z := by
         show (decide (z.length ≤ 2000) && textOk z) = _
         rw [decide_eq_true n1]; rfl
       rw [e] at k
       exact ⟨_, rfl, z, rfl, n1, k⟩
   | non => exact ⟨_, rfl, _, _, _, false, rfl, .non, .inl ⟨_, rfl, rfl⟩, false, rfl, iteT (k H (Same.refl H))⟩
   | bl b => exact ⟨_, rfl, _, _, _, false, rfl, .bl _, .inl ⟨_, rfl, rfl⟩, false, rfl, iteT (k H (Same.refl H))⟩
   | int n => exact ⟨_, rfl, _, _, _, false, rfl, .int _, .inl ⟨_, rfl, rfl⟩, false, rfl, iteT (k H (Same.refl H))⟩
   | lst e f => exact ⟨_, rfl, _, _, _, false, rfl, .lst e, .inl ⟨_, rfl, rfl⟩, false, rfl, iteT (k H (Same.refl H))⟩
   | tup e f => exact ⟨_, rfl, _, _, _, false, rfl, .tup e, .inl ⟨_, rfl, rfl⟩, false, rfl, iteT (k H (Same.refl H))⟩
   | dic e f => exact ⟨_, rfl, _, _, _, false, rfl, .dK e, .inl ⟨_, rfl, rfl⟩, false, rfl, iteT (k H (Same.refl H))⟩
def sp_are_unlike_signs : Sp := fun vs H Q _ => ∃ (z : Str) (lo hi : Int), vs = [.str z, .int lo, .int hi] ∧ Sg z ∧ lo ≤ z.length ∧ (z.length : Int) ≤ hi ∧ z.length ≤ 1000 ∧ ∀ H', Same H H' → Q (.bl true) H'
theorem ok_are_unlike_signs : FnOk P w K mg base CX0 2 f_are_unlike_signs fd_are_unlike_signs ["thing", "least", "most"] sp_are_unlike_signs := by
 have G_is_printable : FnOk P w K mg base CX0 1 f_is_printable fd_is_printable ["sign"] sp_is_printable := ok_is_printable T
 refine T.F_are_unlike_signs.ok sc_are_unlike_signs (fun vs H Q E h => ?_) (fun cdv A outer s H vs Q E hr h => ?_)
 · obtain ⟨z, lo, hi, rfl, _⟩ := h; rfl
 · have hu := hu_of hr
   have hu0 := hr.units0
   obtain ⟨z, lo, hi, rfl, g, hlo, hhi, hz, k⟩ := h
   have hzl : z.length ≤ sizeLine := Nat.le_trans hz (by decide)
   refine ⟨_, (pss_cons (ps_if (PW.pt (pw_or (pt_not (pt_val (pe_callB (callK_isinst K rfl) rfl T.no_isinstance (by decide +kernel) (pa_cons (pv 0) (pa_cons (pe_bty "str" rfl T.no_str (by decide +kernel)) pa_nil))))) (pw_or (pt_cmpR op_lt (pe_callB call_len_str rfl T.no_len (by decide +kernel) (pa_cons (pv 0) pa_nil)) (pv 1) (nomark _)) (pw_or1 (pt_cmpR op_gt (pe_callB call_len_str rfl T.no_len (by decide +kernel) (pa_cons (pv 0) pa_nil)) (pv 2) (nomark _)))))) (pss_one (ps_ret pe_bl)) pss_nil)
     (pss_one (ps_ret (pe_callB (callK_all K rfl rfl) rfl T.no_all (by decide +kernel) (pa_cons (pe_comp rfl (show CompScope ["thing", "least", "most"] (defScope s_are_unlike_signs) ["sign", "thing"] 1 [0] _ from ⟨rfl, by decide +kernel, by decide +kernel, by decide +kernel, by decide +kernel, rfl, rfl, by decide +kernel⟩) (pi_str (pv 0)) (fun _ _ _ _ => (pg_name (i := 0) (show (["sign", "thing"] : List Str).Nodup by decide +kernel) rfl (by first | exact Or.inl rfl | exact Or.inr rfl))) (fun _ _ _ _ => pif_nil) (fun _ _ _ _ => (pe_and (pe_call (k := 1) G_is_printable (hr.mono (by decide)) rfl T.g_is_printable T.F_is_printable.kp T.b_is_printable .nil pass0 (pa_cons (pv 0) pa_nil)) (pe_one (pe_cmpR op_eq (peK_bm K rfl PySem.F.plainAttrs_str PySem.F.slot_str_count PySem.F.type_str_count mt_count (pv 1) (pa_cons (pv 0) pa_nil)) pe_int (nomark _)))))) pa_nil))))), ?_⟩
   refine ⟨_, rfl, _, _, _, true, rfl, .str _, .inl ⟨_, rfl, rfl⟩, true, rfl, iteF ?_⟩
   refine ⟨_, rfl, z, rfl, hzl, _, rfl, _, _, rfl, rfl, _, rfl, iteDn (by omega) ?_⟩
   refine ⟨_, rfl, z, rfl, hzl, _, rfl, _, _, rfl, rfl, _, rfl, iteDn (by omega) ?_⟩
   refine ⟨_, rfl, z, rfl, fun D hD => ?_⟩
   have hsz : z.cps.toList.length = z.length := by rw [Array.length_toList]; rfl
   refine comp_str (fun i ys τ H2 => (∃ v, τ = [v, some (.str z)]) ∧ Same H H2 ∧ H2 D = some (.lst ys) ∧ ys = (List.replicate i true).map V.bl) ⟨⟨_, rfl⟩, same_new hD, upd_same, rfl⟩ (fun i ys τ H2 _ p => p.2.2.1) ?_ ?_
   · rintro i c ys τ H2 hi ⟨⟨v, rfl⟩, s2, hl, rfl⟩
     have hc : c ∈ z.cps.toList := List.mem_of_getElem? hi
     have hil : i < z.cps.toList.length := (List.getElem?_eq_some_iff.mp hi).1
     refine gyes ?_
     refine ⟨_, rfl, c, rfl, _, rfl, iteBt (decide_eq_true (g.pr c hc)) ?_⟩
     refine ⟨_, rfl, rfl, _, rfl, z, c, rfl, rfl, rfl, ?_⟩
     have e : decide (V.int (PyProof.Rows.cnt c z.cps.toList) = V.int 1) = true := by rw [cnt_one g.nd hc]; exact decide_eq_true rfl
     rw [e]
     refine ⟨hl, ?_, ⟨_, rfl⟩, same_set hD s2, upd_same, ?_⟩
     · rw [List.length_map, List.length_replicate]
       exact Nat.lt_of_lt_of_le (show i < 1001 by omega) (by decide)
     · rw [List.replicate_succ', List.map_append]; rfl
   · rintro ys τ H2 ⟨⟨v, rfl⟩, s2, hl, rfl⟩
     refine ⟨D, List.replicate _ true, rfl, SqL.of hl, ?_⟩
     have e : (List.replicate z.cps.toList.length true).all id = true := by
       rw [List.all_eq_true]
       intro b hb
       exact (List.mem_replicate.mp hb).2
     rw [e]
     exact k H2 s2
def sp_Dialect___init__ (C : Addr) : Sp := fun vs H Q _ => ∃ (x dx : Addr) (p q f : Str) (b1 b2 b3 b4 : Bool), vs = .ref x :: seven p q f b1 b2 b3 b4 ∧ H x = some (.ins C dx []) ∧ Gd p q f ∧ ∀ H', H' x = some (.ins C dx (dfl p q f b1 b2 b3 b4)) → (∀ b o, H b = some o → b ≠ x → H' b = some o) → Q .non H'
theorem ok_Dialect___init__ : FnOk P w K mg base CX0 3 f_Dialect___init__ fd_Dialect___init__ ["self", "parts", "quotes", "frees", "twin", "wide", "thin", "stray"] (sp_Dialect___init__ C_Dialect) := by
 have G_are_unlike_signs : FnOk P w K mg base CX0 2 f_are_unlike_signs fd_are_unlike_signs ["thing", "least", "most"] sp_are_unlike_signs := ok_are_unlike_signs T
 refine T.F_Dialect___init__.ok sc_Dialect___init__ (fun vs H Q E h => ?_) (fun cdv A outer s H vs Q E hr h => ?_)
 · obtain ⟨x, dx, p, q, f, b1, b2, b3, b4, rfl, _⟩ := h; rfl
 · have hu := hu_of hr
   have hu0 := hr.units0
   obtain ⟨x, dx, p, q, f, b1, b2, b3, b4, rfl, hx, g, k⟩ := h
   have hp1 := g.p1; have hp3 := g.p3; have hq2 := g.q2; have hf2 := g.f2
   refine ⟨_, (pss_cons (ps_if (pt_not (pt_val (pe_call (k := 2) G_are_unlike_signs (hr.mono (by decide)) rfl T.g_are_unlike_signs T.F_are_unlike_signs.kp T.b_are_unlike_signs .nil pass0 (pa_cons (pv 1) (pa_cons pe_int (pa_cons pe_int pa_nil)))))) (pss_one ps_never) pss_nil)
     (pss_cons (ps_if (pt_not (pt_val (pe_call (k := 2) G_are_unlike_signs (hr.mono (by decide)) rfl T.g_are_unlike_signs T.F_are_unlike_signs.kp T.b_are_unlike_signs .nil pass0 (pa_cons (pv 2) (pa_cons pe_int (pa_cons pe_int pa_nil)))))) (pss_one ps_never) pss_nil)
     (pss_cons (ps_if (pt_not (pt_val (pe_call (k := 2) G_are_unlike_signs (hr.mono (by decide)) rfl T.g_are_unlike_signs T.F_are_unlike_signs.kp T.b_are_unlike_signs .nil pass0 (pa_cons (pv 3) (pa_cons pe_int (pa_cons pe_int pa_nil)))))) (pss_one ps_never) pss_nil)
     (pss_cons (ps_for PassesOwn.never rfl (piK_tup K rfl (pe_tup (pa_cons (pv 4) (pa_cons (pv 5) (pa_cons (pv 6) (pa_cons (pv 7) pa_nil)))))) (pg_name (i := 8) sc_Dialect___init__.nd rfl (by first | exact Or.inl rfl | exact Or.inr rfl))
     (pss_one (ps_if (pt_not (pt_val (pe_callB (callK_isinst K rfl) rfl T.no_isinstance (by decide +kernel) (pa_cons (pv 8) (pa_cons (pe_bty "bool" rfl T.no_bool (by decide +kernel)) pa_nil))))) (pss_one ps_never) pss_nil)))
     (pss_cons (ps_fld (pv 0) (pv 1) rfl)
     (pss_cons (ps_fld (pv 0) (pv 2) rfl)
     (pss_cons (ps_fld (pv 0) (pv 3) rfl)
     (pss_cons (ps_fld (pv 0) (pv 4) rfl)
     (pss_cons (ps_fld (pv 0) (pv 5) rfl)
     (pss_cons (ps_fld (pv 0) (pv 6) rfl)
     (pss_one (ps_fld (pv 0) (pv 7) rfl)))))))))))), ?_⟩
   refine ⟨_, rfl, p, 1, 3, rfl, g.gp, by omega, by omega, by omega, fun H1 s1 => ⟨true, rfl, iteF ?_⟩⟩
   refine ⟨_, rfl, q, 0, 2, rfl, g.gq, by omega, by omega, by omega, fun H2 s2 => ⟨true, rfl, iteF ?_⟩⟩
   refine ⟨_, rfl, f, 0, 2, rfl, g.gf, by omega, by omega, by omega, fun H3 s3 => ⟨true, rfl, iteF ?_⟩⟩
   refine ⟨_, rfl, _, rfl, _, rfl, _, rfl, (by show 4 ≤ sizeLine; decide), fun t ht => ⟨t, rfl, ⟨_, SqT.of upd_same⟩, ?_⟩⟩
   have s03 : Same H (upd H3 t (.tup [.bl b1, .bl b2, .bl b3, .bl b4])) := ((s1.trans s2).trans s3).trans (same_new ht)
   have htt : (upd H3 t (.tup [.bl b1, .bl b2, .bl b3, .bl b4])) t = some (.tup [.bl b1, .bl b2, .bl b3, .bl b4]) := upd_same
   generalize upd H3 t (.tup [.bl b1, .bl b2, .bl b3, .bl b4]) = H4 at s03 htt ⊢
   refine for_tup (K := K) (a := t) (xs := [.bl b1, .bl b2, .bl b3, .bl b4]) (fun i σ H5 => H5 = H4 ∧ ∃ v, σ = [some (.ref x), some (.str p), some (.str q), some (.str f), some (.bl b1), some (.bl b2), some (.bl b3), some (.bl b4), v]) ⟨rfl, _, rfl⟩ (fun i σ H5 _ q => by rw [q.1]; exact SqT.of htt) ?_ ?_
   · rintro i y σ H5 hi ⟨rfl, v, rfl⟩
     obtain ⟨b, rfl⟩ : ∃ b, y = V.bl b := by
       have hi4 : i < 4 := (List.getElem?_eq_some_iff.mp hi).1
       match i, hi4, hi with
       | 0, _, hi => exact ⟨_, (Option.some.inj hi).symm⟩
       | 1, _, hi => exact ⟨_, (Option.some.inj hi).symm⟩
       | 2, _, hi => exact ⟨_, (Option.some.inj hi).symm⟩
       | 3, _, hi => exact ⟨_, (Option.some.inj hi).symm⟩
     refine ⟨_, rfl, _, _, _, true, rfl, .bl _, .inl ⟨_, rfl, rfl⟩, true, rfl, iteF ?_⟩
     exact ⟨rfl, _, rfl⟩
   · rintro σ H5 ⟨rfl, v, rfl⟩
     have hx5 := s03 _ _ hx
     refine ⟨_, rfl, _, rfl, x, C_Dialect, dx, _, rfl, hx5, T.cl_Dialect, T.n_Dialect_parts, (by show 0 < 1000; decide), _, rfl, _, rfl, x, C_Dialect, dx, _, rfl, upd_same, T.cl_Dialect, T.n_Dialect_quotes, (by show 1 < 1000; decide), _, rfl, _, rfl, x, C_Dialect, dx, _, rfl, upd_same, T.cl_Dialect, T.n_Dialect_frees, (by show 2 < 1000; decide), _, rfl, _, rfl, x, C_Dialect, dx, _, rfl, upd_same, T.cl_Dialect, T.n_Dialect_twin, (by show 3 < 1000; decide),
       _, rfl, _, rfl, x, C_Dialect, dx, _, rfl, upd_same, T.cl_Dialect, T.n_Dialect_wide, (by show 4 < 1000; decide), _, rfl, _, rfl, x, C_Dialect, dx, _, rfl, upd_same, T.cl_Dialect, T.n_Dialect_thin, (by show 5 < 1000; decide), _, rfl, _, rfl, x, C_Dialect, dx, _, rfl, upd_same, T.cl_Dialect, T.n_Dialect_stray, (by show 6 < 1000; decide), ?_⟩
     refine k _ upd_same fun b o e hb => ?_
     rw [upd_ne hb, upd_ne hb, upd_ne hb, upd_ne hb, upd_ne hb, upd_ne hb, upd_ne hb]
     exact s03 _ _ e
def sp_Dialect_told (C : Addr) : Sp := fun vs H Q _ => ∃ (x dx : Addr) (p q f : Str) (b1 b2 b3 b4 : Bool), vs = [.ref x] ∧ H x = some (.ins C dx (dfl p q f b1 b2 b3 b4)) ∧ ∀ t, H t = none → Q (.ref t) (upd H t (.tup (seven p q f b1 b2 b3 b4)))
theorem ok_Dialect_told : FnOk P w K mg base CX0 1 f_Dialect_told fd_Dialect_told ["self"] (sp_Dialect_told C_Dialect) := by
 refine T.F_Dialect_told.ok sc_Dialect_told (fun vs H Q E h => ?_) (fun cdv A outer s H vs Q E hr h => ?_)
 · obtain ⟨x, dx, p, q, f, b1, b2, b3, b4, rfl, _⟩ := h; rfl
 · have hu := hu_of hr
   have hu0 := hr.units0
   obtain ⟨x, dx, p, q, f, b1, b2, b3, b4, rfl, hx, k⟩ := h
   refine ⟨_, (pss_one (ps_ret (pe_tup (pa_cons (peK_fld K rfl (pv 0) rfl) (pa_cons (peK_fld K rfl (pv 0) rfl) (pa_cons (peK_fld K rfl (pv 0) rfl) (pa_cons (peK_fld K rfl (pv 0) rfl) (pa_cons (peK_fld K rfl (pv 0) rfl) (pa_cons (peK_fld K rfl (pv 0) rfl) (pa_cons (peK_fld K rfl (pv 0) rfl) pa_nil)))))))))), ?_⟩
   refine ⟨_, rfl, x, C_Dialect, dx, _, _, rfl, hx, T.cl_Dialect, T.n_Dialect_parts, rfl, _, rfl, x, C_Dialect, dx, _, _, rfl, hx, T.cl_Dialect, T.n_Dialect_quotes, rfl, _, rfl, x, C_Dialect, dx, _, _, rfl, hx, T.cl_Dialect, T.n_Dialect_frees, rfl, _, rfl, x, C_Dialect, dx, _, _, rfl, hx, T.cl_Dialect, T.n_Dialect_twin, rfl, _, rfl, x, C_Dialect, dx, _, _, rfl, hx, T.cl_Dialect, T.n_Dialect_wide, rfl, _, rfl, x, C_Dialect, dx, _, _, rfl, hx, T.cl_Dialect, T.n_Dialect_thin, rfl, _, rfl, x, C_Dialect, dx, _, _, rfl, hx, T.cl_Dialect, T.n_Dialect_stray, rfl, (by show 7 ≤ sizeLine; decide), fun t ht => ?_⟩
   exact k t ht
def sp_dialect_of (C : Addr) : Sp := fun vs H Q _ => ∃ (t : Addr) (p q f : Str) (b1 b2 b3 b4 : Bool), vs = [.ref t] ∧ H t = some (.tup (seven p q f b1 b2 b3 b4)) ∧ Gd p q f ∧ ∀ (x dx : Addr) (H' : Hp), H x = none → H' x = some (.ins C dx (dfl p q f b1 b2 b3 b4)) → Same H H' → Q (.ref x) H'
theorem ok_dialect_of : FnOk P w K mg base CX0 5 f_dialect_of fd_dialect_of ["told"] (sp_dialect_of C_Dialect) := by
 have G_Dialect___init__ : FnOk P w K mg base CX0 3 f_Dialect___init__ fd_Dialect___init__ ["self", "parts", "quotes", "frees", "twin", "wide", "thin", "stray"] (sp_Dialect___init__ C_Dialect) := ok_Dialect___init__ T
 refine T.F_dialect_of.ok sc_dialect_of (fun vs H Q E h => ?_) (fun cdv A outer s H vs Q E hr h => ?_)
 · obtain ⟨t, p, q, f, b1, b2, b3, b4, rfl, _⟩ := h; rfl
 · have hu := hu_of hr
   have hu0 := hr.units0
   obtain ⟨t, p, q, f, b1, b2, b3, b4, rfl, ht, g, k⟩ := h
   have hS : SqT K H t (seven p q f b1 b2 b3 b4) := SqT.of ht
   refine ⟨_, (pss_cons (ps_if (PW.pt (pw_or (pt_not (pt_val (pe_callB (callK_isseq K rfl) rfl T.no_isinstance (by decide +kernel) (pa_cons (pv 0) (pa_cons (pe_bty "tuple" rfl T.no_tuple (by decide +kernel)) pa_nil))))) (pw_or1 (pt_cmpR op_ne (pe_callB (callK_len_seq K rfl) rfl T.no_len (by decide +kernel) (pa_cons (pv 0) pa_nil)) pe_int (nomark _))))) (pss_one ps_never) pss_nil)
     (pss_one (ps_ret (pe_make (k := 3) T.M_Dialect G_Dialect___init__ (hr.mono (by decide)) rfl T.g_Dialect T.b_Dialect___init__ .nil pass0 (pa_cons (pe_ix (ixK_tup K rfl) (pv 0) pe_int (fun _ _ => rfl)) (pa_cons (pe_ix (ixK_tup K rfl) (pv 0) pe_int (fun _ _ => rfl)) (pa_cons (pe_ix (ixK_tup K rfl) (pv 0) pe_int (fun _ _ => rfl)) (pa_cons (pe_ix (ixK_tup K rfl) (pv 0) pe_int (fun _ _ => rfl)) (pa_cons (pe_ix (ixK_tup K rfl) (pv 0) pe_int (fun _ _ => rfl)) (pa_cons (pe_ix (ixK_tup K rfl) (pv 0) pe_int (fun _ _ => rfl)) (pa_cons (pe_ix (ixK_tup K rfl) (pv 0) pe_int (fun _ _ => rfl)) pa_nil))))))))))), ?_⟩
   refine ⟨_, rfl, t, _, _, true, rfl, .inl ⟨hS, rfl⟩, true, rfl, iteF ?_⟩
   refine ⟨_, rfl, t, _, rfl, .inr hS, rfl, _, rfl, iteNS rfl ?_⟩
   refine ⟨_, rfl, t, _, _, _, rfl, rfl, hS, rfl, _, rfl, t, _, _, _, rfl, rfl, hS, rfl, _, rfl, t, _, _, _, rfl, rfl, hS, rfl, _, rfl, t, _, _, _, rfl, rfl, hS, rfl, _, rfl, t, _, _, _, rfl, rfl, hS, rfl, _, rfl, t, _, _, _, rfl, rfl, hS, rfl, _, rfl, t, _, _, _, rfl, rfl, hS, rfl, fun x dx hx hdx ne => ?_⟩
   refine ⟨x, dx, p, q, f, b1, b2, b3, b4, rfl, upd_same, g, fun H2 h2 kp => ⟨rfl, k x dx H2 hx h2 fun b o e => kp b o ?_ (ne_of_none e hx)⟩⟩
   rw [upd_ne (ne_of_none e hx), upd_ne (ne_of_none e hdx)]
   exact e
def sp_step_at_beginning (K : PySem.W.Frag) (C : Addr) : Sp := fun vs H Q _ => ∃ (x dx : Addr) (p q f : Str) (b1 b2 b3 b4 : Bool) (s : Addr) (w u : Str) (c : Nat), vs = [.ref x, .ref s, .str (sg c)] ∧ H x = some (.ins C dx (dfl p q f b1 b2 b3 b4)) ∧ SqT K H s [.str w, .str u] ∧ ∀ v H', Same H H' → RelR K H' v (mBegin p q f b3 w u c) → Q v H'
theorem ok_step_at_beginning : FnOk P w K mg base CX0 1 f_step_at_beginning fd_step_at_beginning ["dialect", "state", "sign"] (sp_step_at_beginning K C_Dialect) := by
 refine T.F_step_at_beginning.ok sc_step_at_beginning (fun vs H Q E h => ?_) (fun cdv A outer s H vs Q E hr h => ?_)
 · obtain ⟨x, dx, p, q, f, b1, b2, b3, b4, s, w, u, c, rfl, _⟩ := h; rfl
 · have hu := hu_of hr
   have hu0 := hr.units0
   obtain ⟨x, dx, p, q, f, b1, b2, b3, b4, s, w, u, c, rfl, hx, hs, k⟩ := h
   refine' ⟨_, ?aa, ?bb⟩
   case aa =>
     refine' pss_cons ?s0 ?r0
     case s0 =>
       refine' ps_if ?c1 ?b1 ?e1
       case c1 => exact (pt_cmpR op_in_str (pv 2) (peK_fld K rfl (pv 0) rfl) rfl)
       case b1 =>
         refine' pss_one ?s2
         case s2 =>
           refine' ps_ret ?v3
           case v3 =>
             refine' pe_tup ?a4
             case a4 =>
               refine' pa_cons ?x5 ?y5 ?z5
               case z5 => exact rfl
               case x5 =>
                 exact pe_str
               case y5 =>
                 refine' pa_cons ?x6 ?y6 ?z6
                 case z6 => exact rfl
                 case x6 =>
                   refine' pe_tup ?a7
                   case a7 =>
                     refine' pa_cons ?x8 ?y8 ?z8
                     case z8 => exact rfl
                     case x8 =>
                       exact pe_str
                     case y8 =>
                       refine' pa_cons ?x9 ?y9 ?z9
                       case z9 => exact rfl
                       case x9 =>
                         exact pe_str
                       case y9 =>
                         exact pa_nil
                 case y6 =>
                   exact pa_nil
       case e1 =>
         exact pss_nil
     case r0 =>
       refine' pss_cons ?s10 ?r10
       case s10 =>
         refine' ps_if ?c11 ?b11 ?e11
         case c11 => exact (pt_cmpR op_eq (pv 2) (pe_gstr rfl T.gl_LINE.choose_spec) (nomark _))
         case b11 =>
           refine' pss_one ?s12
           case s12 =>
             refine' ps_ret ?v13
             case v13 =>
               refine' pe_tup ?a14
               case a14 =>
                 refine' pa_cons ?x15 ?y15 ?z15
                 case z15 => exact rfl
                 case x15 =>
                   exact pe_str
                 case y15 =>
                   refine' pa_cons ?x16 ?y16 ?z16
                   case z16 => exact rfl
                   case x16 =>
                     exact (pe_gref rfl T.gl_START)
                   case y16 =>
                     exact pa_nil
         case e11 =>
           exact pss_nil
       case r10 =>
         refine' pss_cons ?s17 ?r17
         case s17 =>
           refine' ps_if ?c18 ?b18 ?e18
           case c18 => exact (pt_cmpR op_in_str (pv 2) (peK_fld K rfl (pv 0) rfl) rfl)
           case b18 =>
             refine' pss_one ?s19
             case s19 =>
               refine' ps_ret ?v20
               case v20 =>
                 refine' pe_tup ?a21
                 case a21 =>
                   refine' pa_cons ?x22 ?y22 ?z22
                   case z22 => exact rfl
                   case x22 =>
                     exact pe_str
                   case y22 =>
                     refine' pa_cons ?x23 ?y23 ?z23
                     case z23 => exact rfl
                     case x23 =>
                       refine' pe_tup ?a24
                       case a24 =>
                         refine' pa_cons ?x25 ?y25 ?z25
                         case z25 => exact rfl
                         case x25 =>
                           exact pe_str
                         case y25 =>
                           refine' pa_cons ?x26 ?y26 ?z26
                           case z26 => exact rfl
                           case x26 =>
                             exact (pv 2)
                           case y26 =>
                             exact pa_nil
                     case y23 =>
                       exact pa_nil
           case e18 =>
             exact pss_nil
         case r17 =>
           refine' pss_cons ?s27 ?r27
           case s27 =>
             refine' ps_if ?c28 ?b28 ?e28
             case c28 => exact (pt_cmpR op_in_str (pv 2) (peK_fld K rfl (pv 0) rfl) rfl)
             case b28 =>
               refine' pss_one ?s29
               case s29 =>
                 refine' ps_ret ?v30
                 case v30 =>
                   refine' pe_tup ?a31
                   case a31 =>
                     refine' pa_cons ?x32 ?y32 ?z32
                     case z32 => exact rfl
                     case x32 =>
                       exact pe_str
                     case y32 =>
                       refine' pa_cons ?x33 ?y33 ?z33
                       case z33 => exact rfl
                       case x33 =>
                         refine' pe_tup ?a34
                         case a34 =>
                           refine' pa_cons ?x35 ?y35 ?z35
                           case z35 => exact rfl
                           case x35 =>
                             exact pe_str
                           case y35 =>
                             refine' pa_cons ?x36 ?y36 ?z36
                             case z36 => exact rfl
                             case x36 =>
                               exact pe_str
                             case y36 =>
                               exact pa_nil
                       case y33 =>
                         exact pa_nil
             case e28 =>
               exact pss_nil
           case r27 =>
             refine' pss_cons ?s37 ?r37
             case s37 =>
               refine' ps_if ?c38 ?b38 ?e38
               case c38 => exact (PW.pt (pw_and (pt_cmpR op_eq (pv 2) pe_str (nomark _)) (pw_and1 (pt_val (peK_fld K rfl (pv 0) rfl)))))
               case b38 =>
                 refine' pss_one ?s39
                 case s39 =>
                   refine' ps_ret ?v40
                   case v40 =>
                     refine' pe_tup ?a41
                     case a41 =>
                       refine' pa_cons ?x42 ?y42 ?z42
                       case z42 => exact rfl
                       case x42 =>
                         exact pe_str
                       case y42 =>
                         refine' pa_cons ?x43 ?y43 ?z43
                         case z43 => exact rfl
                         case x43 =>
                           exact (pv 1)
                         case y43 =>
                           exact pa_nil
               case e38 =>
                 exact pss_nil
             case r37 =>
               refine' pss_one ?s44
               case s44 =>
                 refine' ps_ret ?v45
                 case v45 =>
                   refine' pe_tup ?a46
                   case a46 =>
                     refine' pa_cons ?x47 ?y47 ?z47
                     case z47 => exact rfl
                     case x47 =>
                       exact pe_str
                     case y47 =>
                       refine' pa_cons ?x48 ?y48 ?z48
                       case z48 => exact rfl
                       case x48 =>
                         refine' pe_tup ?a49
                         case a49 =>
                           refine' pa_cons ?x50 ?y50 ?z50
                           case z50 => exact rfl
                           case x50 =>
                             exact pe_str
                           case y50 =>
                             refine' pa_cons ?x51 ?y51 ?z51
                             case z51 => exact rfl
                             case x51 =>
                               exact pe_str
                             case y51 =>
                               exact pa_nil
                       case y48 =>
                         exact pa_nil
   have e2 : isS (sg c) z_LINE = isS (sg c) (Str.ofString "\n") := by rw [T.zl_LINE]
   refine ⟨_, rfl, _, rfl, x, C_Dialect, dx, _, _, rfl, hx, T.cl_Dialect, T.n_Dialect_frees, rfl, _, _, rfl, rfl, _, rfl, ite2 (fun (h1 : inS c f = true) => ?_) (fun (h1 : ¬ inS c f = true) => ?_)⟩
   · exact mk_go (by unfold mBegin; rw [if_pos h1]) kf_skip k
   refine ⟨_, rfl, rfl, _, rfl, ite2 (fun (h2 : isS (sg c) z_LINE = true) => ?_) (fun (h2 : ¬ isS (sg c) z_LINE = true) => ?_)⟩
   · rw [e2] at h2
     exact mk_goR (by unfold mBegin; rw [if_neg h1, if_pos h2]) kf_end (Same.refl _) (.inr T.tu_START) k
   rw [e2] at h2
   refine ⟨_, rfl, _, rfl, x, C_Dialect, dx, _, _, rfl, hx, T.cl_Dialect, T.n_Dialect_quotes, rfl, _, _, rfl, rfl, _, rfl, ite2 (fun (h3 : inS c q = true) => ?_) (fun (h3 : ¬ inS c q = true) => ?_)⟩
   · exact ⟨_, rfl, mk_go (by unfold mBegin; rw [if_neg h1, if_neg h2, if_pos h3]) kf_skip k⟩
   refine ⟨_, rfl, _, rfl, x, C_Dialect, dx, _, _, rfl, hx, T.cl_Dialect, T.n_Dialect_parts, rfl, _, _, rfl, rfl, _, rfl, ite2 (fun (h4 : inS c p = true) => ?_) (fun (h4 : ¬ inS c p = true) => ?_)⟩
   · exact mk_go (by unfold mBegin; rw [if_neg h1, if_neg h2, if_neg h3, if_pos h4]) kf_part k
   refine ⟨_, rfl, rfl, _, rfl, ite2 (fun (h5 : isS (sg c) (Str.ofString " ") = true) => ?_) (fun (h5 : ¬ isS (sg c) (Str.ofString " ") = true) => ?_)⟩
   · refine ⟨_, rfl, x, C_Dialect, dx, _, _, rfl, hx, T.cl_Dialect, T.n_Dialect_thin, rfl, _, rfl, ite2 (fun (h6 : b3 = true) => ?_) (fun (h6 : ¬ b3 = true) => ?_)⟩
     · exact ⟨_, rfl, mk_goR (by unfold mBegin; rw [if_neg h1, if_neg h2, if_neg h3, if_neg h4, if_pos h5, if_pos h6]) kf_skip (Same.refl _) hs k⟩
     exact mk_go (by unfold mBegin; rw [if_neg h1, if_neg h2, if_neg h3, if_neg h4, if_pos h5, if_neg h6]) kf_put k
   refine iteF ?_
   exact mk_go (by unfold mBegin; rw [if_neg h1, if_neg h2, if_neg h3, if_neg h4, if_neg h5]) kf_put k
def sp_step_in_plain (K : PySem.W.Frag) (C : Addr) : Sp := fun vs H Q _ => ∃ (x dx : Addr) (p q f : Str) (b1 b2 b3 b4 : Bool) (c : Nat), vs = [.ref x, .str (sg c)] ∧ H x = some (.ins C dx (dfl p q f b1 b2 b3 b4)) ∧ ∀ v H', Same H H' → RelR K H' v (mPlain p q f b4 c) → Q v H'
theorem ok_step_in_plain : FnOk P w K mg base CX0 1 f_step_in_plain fd_step_in_plain ["dialect", "sign"] (sp_step_in_plain K C_Dialect) := by
 refine T.F_step_in_plain.ok sc_step_in_plain (fun vs H Q E h => ?_) (fun cdv A outer s H vs Q E hr h => ?_)
 · obtain ⟨x, dx, p, q, f, b1, b2, b3, b4, c, rfl, _⟩ := h; rfl
 · have hu := hu_of hr
   have hu0 := hr.units0
   obtain ⟨x, dx, p, q, f, b1, b2, b3, b4, c, rfl, hx, k⟩ := h
   refine' ⟨_, ?aa, ?bb⟩
   case aa =>
     refine' pss_cons ?s0 ?r0
     case s0 =>
       refine' ps_if ?c1 ?b1 ?e1
       case c1 => exact (pt_cmpR op_in_str (pv 1) (peK_fld K rfl (pv 0) rfl) rfl)
       case b1 =>
         refine' pss_one ?s2
         case s2 =>
           refine' ps_ret ?v3
           case v3 =>
             refine' pe_tup ?a4
             case a4 =>
               refine' pa_cons ?x5 ?y5 ?z5
               case z5 => exact rfl
               case x5 =>
                 exact pe_str
               case y5 =>
                 refine' pa_cons ?x6 ?y6 ?z6
                 case z6 => exact rfl
                 case x6 =>
                   refine' pe_tup ?a7
                   case a7 =>
                     refine' pa_cons ?x8 ?y8 ?z8
                     case z8 => exact rfl
                     case x8 =>
                       exact pe_str
                     case y8 =>
                       refine' pa_cons ?x9 ?y9 ?z9
                       case z9 => exact rfl
                       case x9 =>
                         exact pe_str
                       case y9 =>
                         exact pa_nil
                 case y6 =>
                   exact pa_nil
       case e1 =>
         exact pss_nil
     case r0 =>
       refine' pss_cons ?s10 ?r10
       case s10 =>
         refine' ps_if ?c11 ?b11 ?e11
         case c11 => exact (pt_cmpR op_eq (pv 1) (pe_gstr rfl T.gl_LINE.choose_spec) (nomark _))
         case b11 =>
           refine' pss_one ?s12
           case s12 =>
             refine' ps_ret ?v13
             case v13 =>
               refine' pe_tup ?a14
               case a14 =>
                 refine' pa_cons ?x15 ?y15 ?z15
                 case z15 => exact rfl
                 case x15 =>
                   exact pe_str
                 case y15 =>
                   refine' pa_cons ?x16 ?y16 ?z16
                   case z16 => exact rfl
                   case x16 =>
                     exact (pe_gref rfl T.gl_START)
                   case y16 =>
                     exact pa_nil
         case e11 =>
           exact pss_nil
       case r10 =>
         refine' pss_cons ?s17 ?r17
         case s17 =>
           refine' ps_if ?c18 ?b18 ?e18
           case c18 => exact (pt_cmpR op_in_str (pv 1) (peK_fld K rfl (pv 0) rfl) rfl)
           case b18 =>
             refine' pss_one ?s19
             case s19 =>
               refine' ps_ret ?v20
               case v20 =>
                 refine' pe_tup ?a21
                 case a21 =>
                   refine' pa_cons ?x22 ?y22 ?z22
                   case z22 => exact rfl
                   case x22 =>
                     exact pe_str
                   case y22 =>
                     refine' pa_cons ?x23 ?y23 ?z23
                     case z23 => exact rfl
                     case x23 =>
                       refine' pe_tup ?a24
                       case a24 =>
                         refine' pa_cons ?x25 ?y25 ?z25
                         case z25 => exact rfl
                         case x25 =>
                           exact pe_str
                         case y25 =>
                           refine' pa_cons ?x26 ?y26 ?z26
                           case z26 => exact rfl
                           case x26 =>
                             exact pe_str
                           case y26 =>
                             exact pa_nil
                     case y23 =>
                       exact pa_nil
           case e18 =>
             exact pss_nil
         case r17 =>
           refine' pss_cons ?s27 ?r27
           case s27 =>
             refine' ps_if ?c28 ?b28 ?e28
             case c28 => exact (PW.pt (pw_and (pt_cmpR op_in_str (pv 1) (peK_fld K rfl (pv 0) rfl) rfl) (pw_and1 (pt_not (pt_val (peK_fld K rfl (pv 0) rfl))))))
             case b28 =>
               refine' pss_one ?s29
               case s29 =>
                 refine' ps_ret ?v30
                 case v30 =>
                   refine' pe_tup ?a31
                   case a31 =>
                     refine' pa_cons ?x32 ?y32 ?z32
                     case z32 => exact rfl
                     case x32 =>
                       exact pe_str
                     case y32 =>
                       refine' pa_cons ?x33 ?y33 ?z33
                       case z33 => exact rfl
                       case x33 =>
                         exact pe_str
                       case y33 =>
                         exact pa_nil
             case e28 =>
               exact pss_nil
           case r27 =>
             refine' pss_one ?s34
             case s34 =>
               refine' ps_ret ?v35
               case v35 =>
                 refine' pe_tup ?a36
                 case a36 =>
                   refine' pa_cons ?x37 ?y37 ?z37
                   case z37 => exact rfl
                   case x37 =>
                     exact pe_str
                   case y37 =>
                     refine' pa_cons ?x38 ?y38 ?z38
                     case z38 => exact rfl
                     case x38 =>
                       refine' pe_tup ?a39
                       case a39 =>
                         refine' pa_cons ?x40 ?y40 ?z40
                         case z40 => exact rfl
                         case x40 =>
                           exact pe_str
                         case y40 =>
                           refine' pa_cons ?x41 ?y41 ?z41
                           case z41 => exact rfl
                           case x41 =>
                             exact pe_str
                           case y41 =>
                             exact pa_nil
                     case y38 =>
                       exact pa_nil
   have e2 : isS (sg c) z_LINE = isS (sg c) (Str.ofString "\n") := by rw [T.zl_LINE]
   refine ⟨_, rfl, _, rfl, x, C_Dialect, dx, _, _, rfl, hx, T.cl_Dialect, T.n_Dialect_frees, rfl, _, _, rfl, rfl, _, rfl, ite2 (fun (h1 : inS c f = true) => ?_) (fun (h1 : ¬ inS c f = true) => ?_)⟩
   · exact mk_go (by unfold mPlain; rw [if_pos h1]) kf_skip k
   refine ⟨_, rfl, rfl, _, rfl, ite2 (fun (h2 : isS (sg c) z_LINE = true) => ?_) (fun (h2 : ¬ isS (sg c) z_LINE = true) => ?_)⟩
   · rw [e2] at h2
     exact mk_goR (by unfold mPlain; rw [if_neg h1, if_pos h2]) kf_end (Same.refl _) (.inr T.tu_START) k
   rw [e2] at h2
   refine ⟨_, rfl, _, rfl, x, C_Dialect, dx, _, _, rfl, hx, T.cl_Dialect, T.n_Dialect_parts, rfl, _, _, rfl, rfl, _, rfl, ite2 (fun (h3 : inS c p = true) => ?_) (fun (h3 : ¬ inS c p = true) => ?_)⟩
   · exact mk_go (by unfold mPlain; rw [if_neg h1, if_neg h2, if_pos h3]) kf_part k
   refine ⟨_, rfl, _, rfl, x, C_Dialect, dx, _, _, rfl, hx, T.cl_Dialect, T.n_Dialect_quotes, rfl, _, _, rfl, rfl, _, rfl, ite2 (fun (h4 : inS c q = true) => ?_) (fun (h4 : ¬ inS c q = true) => ?_)⟩
   · refine ⟨_, rfl, x, C_Dialect, dx, _, _, rfl, hx, T.cl_Dialect, T.n_Dialect_stray, rfl, _, rfl, ite2 (fun (h5 : (!b4) = true) => ?_) (fun (h5 : ¬ (!b4) = true) => ?_)⟩
     · exact mk_flt (by unfold mPlain; rw [if_neg h1, if_neg h2, if_neg h3, if_pos h4, if_pos h5]) k
     exact mk_go (by unfold mPlain; rw [if_neg h1, if_neg h2, if_neg h3, if_pos h4, if_neg h5]) kf_put k
   refine iteF ?_
   exact mk_go (by unfold mPlain; rw [if_neg h1, if_neg h2, if_neg h3, if_neg h4]) kf_put k
def sp_step_within (K : PySem.W.Frag) (C : Addr) : Sp := fun vs H Q _ => ∃ (x dx : Addr) (p q f : Str) (b1 b2 b3 b4 : Bool) (u : Str) (c : Nat), vs = [.ref x, .str u, .str (sg c)] ∧ H x = some (.ins C dx (dfl p q f b1 b2 b3 b4)) ∧ ∀ v H', Same H H' → RelR K H' v (mWithin f b1 b2 u c) → Q v H'
theorem ok_step_within : FnOk P w K mg base CX0 1 f_step_within fd_step_within ["dialect", "quote", "sign"] (sp_step_within K C_Dialect) := by
 refine T.F_step_within.ok sc_step_within (fun vs H Q E h => ?_) (fun cdv A outer s H vs Q E hr h => ?_)
 · obtain ⟨x, dx, p, q, f, b1, b2, b3, b4, u, c, rfl, _⟩ := h; rfl
 · have hu := hu_of hr
   have hu0 := hr.units0
   obtain ⟨x, dx, p, q, f, b1, b2, b3, b4, u, c, rfl, hx, k⟩ := h
   refine' ⟨_, ?aa, ?bb⟩
   case aa =>
     refine' pss_cons ?s0 ?r0
     case s0 =>
       refine' ps_if ?c1 ?b1 ?e1
       case c1 => exact (pt_cmpR op_in_str (pv 2) (peK_fld K rfl (pv 0) rfl) rfl)
       case b1 =>
         refine' pss_one ?s2
         case s2 =>
           refine' ps_ret ?v3
           case v3 =>
             refine' pe_tup ?a4
             case a4 =>
               refine' pa_cons ?x5 ?y5 ?z5
               case z5 => exact rfl
               case x5 =>
                 exact pe_str
               case y5 =>
                 refine' pa_cons ?x6 ?y6 ?z6
                 case z6 => exact rfl
                 case x6 =>
                   refine' pe_tup ?a7
                   case a7 =>
                     refine' pa_cons ?x8 ?y8 ?z8
                     case z8 => exact rfl
                     case x8 =>
                       exact pe_str
                     case y8 =>
                       refine' pa_cons ?x9 ?y9 ?z9
                       case z9 => exact rfl
                       case x9 =>
                         exact (pv 1)
                       case y9 =>
                         exact pa_nil
                 case y6 =>
                   exact pa_nil
       case e1 =>
         exact pss_nil
     case r0 =>
       refine' pss_cons ?s10 ?r10
       case s10 =>
         refine' ps_if ?c11 ?b11 ?e11
         case c11 => exact (pt_cmpR op_eq (pv 2) (pv 1) (nomark _))
         case b11 =>
           refine' pss_one ?s12
           case s12 =>
             refine' ps_ret ?v13
             case v13 =>
               refine' pe_tup ?a14
               case a14 =>
                 refine' pa_cons ?x15 ?y15 ?z15
                 case z15 => exact rfl
                 case x15 =>
                   exact pe_str
                 case y15 =>
                   refine' pa_cons ?x16 ?y16 ?z16
                   case z16 => exact rfl
                   case x16 =>
                     exact (pe_ifExp (pt_val (peK_fld K rfl (pv 0) rfl)) (pe_tup (pa_cons pe_str (pa_cons (pv 1) pa_nil))) (pe_tup (pa_cons pe_str (pa_cons pe_str pa_nil))))
                   case y16 =>
                     exact pa_nil
         case e11 =>
           exact pss_nil
       case r10 =>
         refine' pss_cons ?s17 ?r17
         case s17 =>
           refine' ps_if ?c18 ?b18 ?e18
           case c18 => exact (PW.pt (pw_and (pt_cmpR op_eq (pv 2) (pe_gstr rfl T.gl_LINE.choose_spec) (nomark _)) (pw_and1 (pt_not (pt_val (peK_fld K rfl (pv 0) rfl))))))
           case b18 =>
             refine' pss_one ?s19
             case s19 =>
               refine' ps_ret ?v20
               case v20 =>
                 refine' pe_tup ?a21
                 case a21 =>
                   refine' pa_cons ?x22 ?y22 ?z22
                   case z22 => exact rfl
                   case x22 =>
                     exact pe_str
                   case y22 =>
                     refine' pa_cons ?x23 ?y23 ?z23
                     case z23 => exact rfl
                     case x23 =>
                       exact pe_str
                     case y23 =>
                       exact pa_nil
           case e18 =>
             exact pss_nil
         case r17 =>
           refine' pss_one ?s24
           case s24 =>
             refine' ps_ret ?v25
             case v25 =>
               refine' pe_tup ?a26
               case a26 =>
                 refine' pa_cons ?x27 ?y27 ?z27
                 case z27 => exact rfl
                 case x27 =>
                   exact pe_str
                 case y27 =>
                   refine' pa_cons ?x28 ?y28 ?z28
                   case z28 => exact rfl
                   case x28 =>
                     refine' pe_tup ?a29
                     case a29 =>
                       refine' pa_cons ?x30 ?y30 ?z30
                       case z30 => exact rfl
                       case x30 =>
                         exact pe_str
                       case y30 =>
                         refine' pa_cons ?x31 ?y31 ?z31
                         case z31 => exact rfl
                         case x31 =>
                           exact (pv 1)
                         case y31 =>
                           exact pa_nil
                   case y28 =>
                     exact pa_nil
   have e2 : isS (sg c) z_LINE = isS (sg c) (Str.ofString "\n") := by rw [T.zl_LINE]
   refine ⟨_, rfl, _, rfl, x, C_Dialect, dx, _, _, rfl, hx, T.cl_Dialect, T.n_Dialect_frees, rfl, _, _, rfl, rfl, _, rfl, ite2 (fun (h1 : inS c f = true) => ?_) (fun (h1 : ¬ inS c f = true) => ?_)⟩
   · exact ⟨_, rfl, mk_go (by unfold mWithin; rw [if_pos h1]) kf_skip k⟩
   refine ⟨_, rfl, _, rfl, rfl, _, rfl, ite2 (fun (h2 : isS (sg c) u = true) => ?_) (fun (h2 : ¬ isS (sg c) u = true) => ?_)⟩
   · refine ⟨_, rfl, x, C_Dialect, dx, _, _, rfl, hx, T.cl_Dialect, T.n_Dialect_twin, rfl, _, rfl, ite2 (fun (h3 : b1 = true) => ?_) (fun (h3 : ¬ b1 = true) => ?_)⟩
     · exact ⟨_, rfl, mk_go (by unfold mWithin; rw [if_neg h1, if_pos h2, if_pos h3]) kf_skip k⟩
     exact mk_go (by unfold mWithin; rw [if_neg h1, if_pos h2, if_neg h3]) kf_skip k
   refine ⟨_, rfl, rfl, _, rfl, ite2 (fun (h3 : isS (sg c) z_LINE = true) => ?_) (fun (h3 : ¬ isS (sg c) z_LINE = true) => ?_)⟩
   · rw [e2] at h3
     refine ⟨_, rfl, x, C_Dialect, dx, _, _, rfl, hx, T.cl_Dialect, T.n_Dialect_wide, rfl, _, rfl, ite2 (fun (h4 : (!b2) = true) => ?_) (fun (h4 : ¬ (!b2) = true) => ?_)⟩
     · exact mk_flt (by unfold mWithin; rw [if_neg h1, if_neg h2, if_pos h3, if_pos h4]) k
     exact ⟨_, rfl, mk_go (by unfold mWithin; rw [if_neg h1, if_neg h2, if_pos h3, if_neg h4]) kf_put k⟩
   rw [e2] at h3
   refine iteF ?_
   exact ⟨_, rfl, mk_go (by unfold mWithin; rw [if_neg h1, if_neg h2, if_neg h3]) kf_put k⟩
def sp_step_behind (K : PySem.W.Frag) (C : Addr) : Sp := fun vs H Q _ => ∃ (x dx : Addr) (p q f : Str) (b1 b2 b3 b4 : Bool) (c : Nat), vs = [.ref x, .str (sg c)] ∧ H x = some (.ins C dx (dfl p q f b1 b2 b3 b4)) ∧ ∀ v H', Same H H' → RelR K H' v (mBehind p b3 c) → Q v H'
theorem ok_step_behind : FnOk P w K mg base CX0 1 f_step_behind fd_step_behind ["dialect", "sign"] (sp_step_behind K C_Dialect) := by
 refine T.F_step_behind.ok sc_step_behind (fun vs H Q E h => ?_) (fun cdv A outer s H vs Q E hr h => ?_)
 · obtain ⟨x, dx, p, q, f, b1, b2, b3, b4, c, rfl, _⟩ := h; rfl
 · have hu := hu_of hr
   have hu0 := hr.units0
   obtain ⟨x, dx, p, q, f, b1, b2, b3, b4, c, rfl, hx, k⟩ := h
   refine' ⟨_, ?aa, ?bb⟩
   case aa =>
     refine' pss_cons ?s0 ?r0
     case s0 =>
       refine' ps_if ?c1 ?b1 ?e1
       case c1 => exact (pt_cmpR op_eq (pv 1) (pe_gstr rfl T.gl_LINE.choose_spec) (nomark _))
       case b1 =>
         refine' pss_one ?s2
         case s2 =>
           refine' ps_ret ?v3
           case v3 =>
             refine' pe_tup ?a4
             case a4 =>
               refine' pa_cons ?x5 ?y5 ?z5
               case z5 => exact rfl
               case x5 =>
                 exact pe_str
               case y5 =>
                 refine' pa_cons ?x6 ?y6 ?z6
                 case z6 => exact rfl
                 case x6 =>
                   exact (pe_gref rfl T.gl_START)
                 case y6 =>
                   exact pa_nil
       case e1 =>
         exact pss_nil
     case r0 =>
       refine' pss_cons ?s7 ?r7
       case s7 =>
         refine' ps_if ?c8 ?b8 ?e8
         case c8 => exact (pt_cmpR op_in_str (pv 1) (peK_fld K rfl (pv 0) rfl) rfl)
         case b8 =>
           refine' pss_one ?s9
           case s9 =>
             refine' ps_ret ?v10
             case v10 =>
               refine' pe_tup ?a11
               case a11 =>
                 refine' pa_cons ?x12 ?y12 ?z12
                 case z12 => exact rfl
                 case x12 =>
                   exact pe_str
                 case y12 =>
                   refine' pa_cons ?x13 ?y13 ?z13
                   case z13 => exact rfl
                   case x13 =>
                     refine' pe_tup ?a14
                     case a14 =>
                       refine' pa_cons ?x15 ?y15 ?z15
                       case z15 => exact rfl
                       case x15 =>
                         exact pe_str
                       case y15 =>
                         refine' pa_cons ?x16 ?y16 ?z16
                         case z16 => exact rfl
                         case x16 =>
                           exact pe_str
                         case y16 =>
                           exact pa_nil
                   case y13 =>
                     exact pa_nil
         case e8 =>
           exact pss_nil
       case r7 =>
         refine' pss_cons ?s17 ?r17
         case s17 =>
           refine' ps_if ?c18 ?b18 ?e18
           case c18 => exact (PW.pt (pw_and (pt_cmpR op_eq (pv 1) pe_str (nomark _)) (pw_and1 (pt_val (peK_fld K rfl (pv 0) rfl)))))
           case b18 =>
             refine' pss_one ?s19
             case s19 =>
               refine' ps_ret ?v20
               case v20 =>
                 refine' pe_tup ?a21
                 case a21 =>
                   refine' pa_cons ?x22 ?y22 ?z22
                   case z22 => exact rfl
                   case x22 =>
                     exact pe_str
                   case y22 =>
                     refine' pa_cons ?x23 ?y23 ?z23
                     case z23 => exact rfl
                     case x23 =>
                       refine' pe_tup ?a24
                       case a24 =>
                         refine' pa_cons ?x25 ?y25 ?z25
                         case z25 => exact rfl
                         case x25 =>
                           exact pe_str
                         case y25 =>
                           refine' pa_cons ?x26 ?y26 ?z26
                           case z26 => exact rfl
                           case x26 =>
                             exact pe_str
                           case y26 =>
                             exact pa_nil
                     case y23 =>
                       exact pa_nil
           case e18 =>
             exact pss_nil
         case r17 =>
           refine' pss_one ?s27
           case s27 =>
             refine' ps_ret ?v28
             case v28 =>
               refine' pe_tup ?a29
               case a29 =>
                 refine' pa_cons ?x30 ?y30 ?z30
                 case z30 => exact rfl
                 case x30 =>
                   exact pe_str
                 case y30 =>
                   refine' pa_cons ?x31 ?y31 ?z31
                   case z31 => exact rfl
                   case x31 =>
                     exact pe_str
                   case y31 =>
                     exact pa_nil
   have e2 : isS (sg c) z_LINE = isS (sg c) (Str.ofString "\n") := by rw [T.zl_LINE]
   refine ⟨_, rfl, rfl, _, rfl, ite2 (fun (h1 : isS (sg c) z_LINE = true) => ?_) (fun (h1 : ¬ isS (sg c) z_LINE = true) => ?_)⟩
   · rw [e2] at h1
     exact mk_goR (by unfold mBehind; rw [if_pos h1]) kf_end (Same.refl _) (.inr T.tu_START) k
   rw [e2] at h1
   refine ⟨_, rfl, _, rfl, x, C_Dialect, dx, _, _, rfl, hx, T.cl_Dialect, T.n_Dialect_parts, rfl, _, _, rfl, rfl, _, rfl, ite2 (fun (h2 : inS c p = true) => ?_) (fun (h2 : ¬ inS c p = true) => ?_)⟩
   · exact mk_go (by unfold mBehind; rw [if_neg h1, if_pos h2]) kf_part k
   refine ⟨_, rfl, rfl, _, rfl, ite2 (fun (h3 : isS (sg c) (Str.ofString " ") = true) => ?_) (fun (h3 : ¬ isS (sg c) (Str.ofString " ") = true) => ?_)⟩
   · refine ⟨_, rfl, x, C_Dialect, dx, _, _, rfl, hx, T.cl_Dialect, T.n_Dialect_thin, rfl, _, rfl, ite2 (fun (h4 : b3 = true) => ?_) (fun (h4 : ¬ b3 = true) => ?_)⟩
     · exact mk_go (by unfold mBehind; rw [if_neg h1, if_neg h2, if_pos h3, if_pos h4]) kf_skip k
     exact mk_flt (by unfold mBehind; rw [if_neg h1, if_neg h2, if_pos h3, if_neg h4]) k
   refine iteF ?_
   exact mk_flt (by unfold mBehind; rw [if_neg h1, if_neg h2, if_neg h3]) k
def sp_step_in_doubt (K : PySem.W.Frag) (C : Addr) : Sp := fun vs H Q _ => ∃ (x dx : Addr) (p q f : Str) (b1 b2 b3 b4 : Bool) (u : Str) (c : Nat), vs = [.ref x, .str u, .str (sg c)] ∧ H x = some (.ins C dx (dfl p q f b1 b2 b3 b4)) ∧ ∀ v H', Same H H' → RelR K H' v (mDoubt p b3 u c) → Q v H'
theorem ok_step_in_doubt : FnOk P w K mg base CX0 2 f_step_in_doubt fd_step_in_doubt ["dialect", "quote", "sign"] (sp_step_in_doubt K C_Dialect) := by
 have G_step_behind : FnOk P w K mg base CX0 1 f_step_behind fd_step_behind ["dialect", "sign"] (sp_step_behind K C_Dialect) := ok_step_behind T
 refine T.F_step_in_doubt.ok sc_step_in_doubt (fun vs H Q E h => ?_) (fun cdv A outer s H vs Q E hr h => ?_)
 · obtain ⟨x, dx, p, q, f, b1, b2, b3, b4, u, c, rfl, _⟩ := h; rfl
 · have hu := hu_of hr
   have hu0 := hr.units0
   obtain ⟨x, dx, p, q, f, b1, b2, b3, b4, u, c, rfl, hx, k⟩ := h
   refine ⟨_, (pss_cons (ps_if (pt_cmpR op_eq (pv 2) (pv 1) (nomark _)) (pss_one (ps_ret (pe_tup (pa_cons pe_str (pa_cons (pe_tup (pa_cons pe_str (pa_cons (pv 1) pa_nil))) pa_nil))))) pss_nil)
     (pss_one (ps_ret (pe_call (k := 1) G_step_behind (hr.mono (by decide)) rfl T.g_step_behind T.F_step_behind.kp T.b_step_behind .nil pass0 (pa_cons (pv 0) (pa_cons (pv 2) pa_nil)))))), ?_⟩
   refine ⟨_, rfl, _, rfl, rfl, _, rfl, ite2 (fun (h1 : isS (sg c) u = true) => ?_) (fun (h1 : ¬ isS (sg c) u = true) => ?_)⟩
   · exact ⟨_, rfl, mk_go (by unfold mDoubt; rw [if_pos h1]) kf_put k⟩
   refine ⟨_, rfl, _, rfl, x, dx, p, q, f, b1, b2, b3, b4, c, rfl, hx, fun v H2 s2 r => k v H2 s2 ?_⟩
   unfold mDoubt
   rw [if_neg h1]
   exact r
def sp_step_freed (K : PySem.W.Frag) (C : Addr) : Sp := fun vs H Q _ => ∃ (x dx : Addr) (p q f : Str) (b1 b2 b3 b4 : Bool) (u : Str) (c : Nat), vs = [.ref x, .str u, .str (sg c)] ∧ H x = some (.ins C dx (dfl p q f b1 b2 b3 b4)) ∧ ∀ v H', Same H H' → RelR K H' v (mFreed b2 u c) → Q v H'
theorem ok_step_freed : FnOk P w K mg base CX0 1 f_step_freed fd_step_freed ["dialect", "quote", "sign"] (sp_step_freed K C_Dialect) := by
 refine T.F_step_freed.ok sc_step_freed (fun vs H Q E h => ?_) (fun cdv A outer s H vs Q E hr h => ?_)
 · obtain ⟨x, dx, p, q, f, b1, b2, b3, b4, u, c, rfl, _⟩ := h; rfl
 · have hu := hu_of hr
   have hu0 := hr.units0
   obtain ⟨x, dx, p, q, f, b1, b2, b3, b4, u, c, rfl, hx, k⟩ := h
   refine' ⟨_, ?aa, ?bb⟩
   case aa =>
     refine' pss_cons ?s0 ?r0
     case s0 =>
       refine' ps_if ?c1 ?b1 ?e1
       case c1 => exact (PW.pt (pw_and (pt_cmpR op_eq (pv 2) (pe_gstr rfl T.gl_LINE.choose_spec) (nomark _)) (pw_and1 (pt_not (pt_val (peK_fld K rfl (pv 0) rfl))))))
       case b1 =>
         refine' pss_one ?s2
         case s2 =>
           refine' ps_ret ?v3
           case v3 =>
             refine' pe_tup ?a4
             case a4 =>
               refine' pa_cons ?x5 ?y5 ?z5
               case z5 => exact rfl
               case x5 =>
                 exact pe_str
               case y5 =>
                 refine' pa_cons ?x6 ?y6 ?z6
                 case z6 => exact rfl
                 case x6 =>
                   exact pe_str
                 case y6 =>
                   exact pa_nil
       case e1 =>
         exact pss_nil
     case r0 =>
       refine' pss_one ?s7
       case s7 =>
         refine' ps_ret ?v8
         case v8 =>
           refine' pe_tup ?a9
           case a9 =>
             refine' pa_cons ?x10 ?y10 ?z10
             case z10 => exact rfl
             case x10 =>
               exact pe_str
             case y10 =>
               refine' pa_cons ?x11 ?y11 ?z11
               case z11 => exact rfl
               case x11 =>
                 exact (pe_ifExp (pt_cmpR op_eq (pv 1) pe_str (nomark _)) (pe_tup (pa_cons pe_str (pa_cons pe_str pa_nil))) (pe_tup (pa_cons pe_str (pa_cons (pv 1) pa_nil))))
               case y11 =>
                 exact pa_nil
   have e2 : isS (sg c) z_LINE = isS (sg c) (Str.ofString "\n") := by rw [T.zl_LINE]
   refine ⟨_, rfl, rfl, _, rfl, ite2 (fun (h1 : isS (sg c) z_LINE = true) => ?_) (fun (h1 : ¬ isS (sg c) z_LINE = true) => ?_)⟩
   · rw [e2] at h1
     refine ⟨_, rfl, x, C_Dialect, dx, _, _, rfl, hx, T.cl_Dialect, T.n_Dialect_wide, rfl, _, rfl, ite2 (fun (h2 : (!b2) = true) => ?_) (fun (h2 : ¬ (!b2) = true) => ?_)⟩
     · exact mk_flt (by unfold mFreed; rw [if_pos h1, if_pos h2]) k
     refine ⟨_, rfl, rfl, _, rfl, ite2 (fun (h9 : isS u (Str.ofString "") = true) => ?_) (fun (h9 : ¬ isS u (Str.ofString "") = true) => ?_)⟩
     · exact mk_go (by unfold mFreed mFreedX; rw [if_pos h1, if_neg h2, if_pos h9]) kf_put k
     exact ⟨_, rfl, mk_go (by unfold mFreed mFreedX; rw [if_pos h1, if_neg h2, if_neg h9]) kf_put k⟩
   rw [e2] at h1
   refine iteF ?_
   refine ⟨_, rfl, rfl, _, rfl, ite2 (fun (h9 : isS u (Str.ofString "") = true) => ?_) (fun (h9 : ¬ isS u (Str.ofString "") = true) => ?_)⟩
   · exact mk_go (by unfold mFreed mFreedX; rw [if_neg h1, if_pos h9]) kf_put k
   exact ⟨_, rfl, mk_go (by unfold mFreed mFreedX; rw [if_neg h1, if_neg h9]) kf_put k⟩
def sp_Turn___init__ (C CT : Addr) : Sp := fun vs H Q _ => ∃ (y dy x dx : Addr) (p q f : Str) (b1 b2 b3 b4 : Bool), vs = [.ref y, .ref x] ∧ H y = some (.ins CT dy []) ∧ H x = some (.ins C dx (dfl p q f b1 b2 b3 b4)) ∧ Gd p q f ∧ ∀ H', Tn C CT H' y p q f b1 b2 b3 b4 → (∀ b o, H b = some o → b ≠ y → H' b = some o) → Q .non H'
theorem ok_Turn___init__ : FnOk P w K mg base CX0 6 f_Turn___init__ fd_Turn___init__ ["self", "dialect"] (sp_Turn___init__ C_Dialect C_Turn) := by
 have G_Dialect_told : FnOk P w K mg base CX0 1 f_Dialect_told fd_Dialect_told ["self"] (sp_Dialect_told C_Dialect) := ok_Dialect_told T
 have G_dialect_of : FnOk P w K mg base CX0 5 f_dialect_of fd_dialect_of ["told"] (sp_dialect_of C_Dialect) := ok_dialect_of T
 refine T.F_Turn___init__.ok sc_Turn___init__ (fun vs H Q E h => ?_) (fun cdv A outer s H vs Q E hr h => ?_)
 · obtain ⟨y, dy, x, dx, p, q, f, b1, b2, b3, b4, rfl, _⟩ := h; rfl
 · have hu := hu_of hr
   have hu0 := hr.units0
   obtain ⟨y, dy, x, dx, p, q, f, b1, b2, b3, b4, rfl, hy, hx, g, k⟩ := h
   refine ⟨_, (pss_one (ps_fld (pv 0) (pe_call (k := 5) G_dialect_of (hr.mono (by decide)) rfl T.g_dialect_of T.F_dialect_of.kp T.b_dialect_of .nil pass0 (pa_cons (pe_meth0 (k := 1) (pv 1) T.cl_Dialect T.m_Dialect_told G_Dialect_told (hr.mono (by decide)) T.b_Dialect_told .nil pass0) pa_nil)) rfl)), ?_⟩
   refine ⟨_, rfl, x, dx, _, rfl, hx, rfl, x, dx, p, q, f, b1, b2, b3, b4, rfl, hx, fun t ht => ?_⟩
   have s1 := same_new (o := HO.tup (seven p q f b1 b2 b3 b4)) ht
   refine ⟨t, p, q, f, b1, b2, b3, b4, rfl, upd_same, g, fun d dd H2 hd h2 s2 => ?_⟩
   have s12 := s1.trans s2
   have nyd : d ≠ y := fun e => by subst e; rw [s1 _ _ hy] at hd; cases hd
   refine ⟨_, rfl, y, C_Turn, dy, _, rfl, s12 _ _ hy, T.cl_Turn, T.n_Turn_dialect, (by show 0 < 1000; decide), ?_⟩
   refine k _ ⟨⟨dy, d, dd, upd_same, (upd_ne nyd).trans h2⟩⟩ fun b o e hb => (upd_ne hb).trans (s12 _ _ e)
def sp_Turn_step (K : PySem.W.Frag) (C CT : Addr) : Sp := fun vs H Q _ => ∃ (y s : Addr) (w u : Str) (c : Nat) (p q f : Str) (b1 b2 b3 b4 : Bool), vs = [.ref y, .ref s, .str (sg c)] ∧ Tn C CT H y p q f b1 b2 b3 b4 ∧ SqT K H s [.str w, .str u] ∧ ∀ v H', Same H H' → RelR K H' v (stepM p q f b1 b2 b3 b4 w u c) → Q v H'
theorem ok_Turn_step : FnOk P w K mg base CX0 3 f_Turn_step fd_Turn_step ["self", "state", "sign"] (sp_Turn_step K C_Dialect C_Turn) := by
 have G_step_at_beginning : FnOk P w K mg base CX0 1 f_step_at_beginning fd_step_at_beginning ["dialect", "state", "sign"] (sp_step_at_beginning K C_Dialect) := ok_step_at_beginning T
 have G_step_behind : FnOk P w K mg base CX0 1 f_step_behind fd_step_behind ["dialect", "sign"] (sp_step_behind K C_Dialect) := ok_step_behind T
 have G_step_freed : FnOk P w K mg base CX0 1 f_step_freed fd_step_freed ["dialect", "quote", "sign"] (sp_step_freed K C_Dialect) := ok_step_freed T
 have G_step_in_doubt : FnOk P w K mg base CX0 2 f_step_in_doubt fd_step_in_doubt ["dialect", "quote", "sign"] (sp_step_in_doubt K C_Dialect) := ok_step_in_doubt T
 have G_step_in_plain : FnOk P w K mg base CX0 1 f_step_in_plain fd_step_in_plain ["dialect", "sign"] (sp_step_in_plain K C_Dialect) := ok_step_in_plain T
 have G_step_within : FnOk P w K mg base CX0 1 f_step_within fd_step_within ["dialect", "quote", "sign"] (sp_step_within K C_Dialect) := ok_step_within T
 refine T.F_Turn_step.ok sc_Turn_step (fun vs H Q E h => ?_) (fun cdv A outer s H vs Q E hr h => ?_)
 · obtain ⟨y, s, w, u, c, p, q, f, b1, b2, b3, b4, rfl, _⟩ := h; rfl
 · have hu := hu_of hr
   have hu0 := hr.units0
   obtain ⟨y, s, w, u, c, p, q, f, b1, b2, b3, b4, rfl, hT, hs, k⟩ := h
   obtain ⟨dy, d, dd, hy, hd⟩ := hT.ok
   refine ⟨_, (pss_cons (ps_set (i := 3) sc_Turn_step.nd rfl (by first | exact Or.inl rfl | exact Or.inr rfl) (pe_ix (ixK_tup K rfl) (pv 1) pe_int (fun _ _ => rfl)))
     (pss_cons (ps_set (i := 4) sc_Turn_step.nd rfl (by first | exact Or.inl rfl | exact Or.inr rfl) (pe_ix (ixK_tup K rfl) (pv 1) pe_int (fun _ _ => rfl)))
     (pss_cons (ps_if (pt_cmpR op_eq (pv 3) pe_str (nomark _)) (pss_one (ps_ret (pe_call (k := 1) G_step_in_plain (hr.mono (by decide)) rfl T.g_step_in_plain T.F_step_in_plain.kp T.b_step_in_plain .nil pass0 (pa_cons (peK_fld K rfl (pv 0) rfl) (pa_cons (pv 2) pa_nil))))) pss_nil)
     (pss_cons (ps_if (pt_cmpR op_eq (pv 3) pe_str (nomark _)) (pss_one (ps_ret (pe_call (k := 1) G_step_within (hr.mono (by decide)) rfl T.g_step_within T.F_step_within.kp T.b_step_within .nil pass0 (pa_cons (peK_fld K rfl (pv 0) rfl) (pa_cons (pv 4) (pa_cons (pv 2) pa_nil)))))) pss_nil)
     (pss_cons (ps_if (pt_cmpR op_eq (pv 3) pe_str (nomark _)) (pss_one (ps_ret (pe_call (k := 2) G_step_in_doubt (hr.mono (by decide)) rfl T.g_step_in_doubt T.F_step_in_doubt.kp T.b_step_in_doubt .nil pass0 (pa_cons (peK_fld K rfl (pv 0) rfl) (pa_cons (pv 4) (pa_cons (pv 2) pa_nil)))))) pss_nil)
     (pss_cons (ps_if (pt_cmpR op_eq (pv 3) pe_str (nomark _)) (pss_one (ps_ret (pe_call (k := 1) G_step_behind (hr.mono (by decide)) rfl T.g_step_behind T.F_step_behind.kp T.b_step_behind .nil pass0 (pa_cons (peK_fld K rfl (pv 0) rfl) (pa_cons (pv 2) pa_nil))))) pss_nil)
     (pss_cons (ps_if (pt_cmpR op_eq (pv 3) pe_str (nomark _)) (pss_one (ps_ret (pe_call (k := 1) G_step_freed (hr.mono (by decide)) rfl T.g_step_freed T.F_step_freed.kp T.b_step_freed .nil pass0 (pa_cons (peK_fld K rfl (pv 0) rfl) (pa_cons (pv 4) (pa_cons (pv 2) pa_nil)))))) pss_nil)
     (pss_one (ps_ret (pe_call (k := 1) G_step_at_beginning (hr.mono (by decide)) rfl T.g_step_at_beginning T.F_step_at_beginning.kp T.b_step_at_beginning .nil pass0 (pa_cons (peK_fld K rfl (pv 0) rfl) (pa_cons (pv 1) (pa_cons (pv 2) pa_nil))))))))))))), ?_⟩
   refine ⟨_, rfl, s, _, _, _, rfl, rfl, hs, rfl, _, rfl, s, _, _, _, rfl, rfl, hs, rfl, ?_⟩
   refine ⟨_, rfl, rfl, _, rfl, ite2 (fun (h1 : isS w (Str.ofString "plain") = true) => ?_) (fun (h1 : ¬ isS w (Str.ofString "plain") = true) => ?_)⟩
   · refine ⟨_, rfl, y, C_Turn, dy, _, _, rfl, hy, T.cl_Turn, T.n_Turn_dialect, rfl, _, rfl, d, dd, p, q, f, b1, b2, b3, b4, c, rfl, hd, fun v H2 s2 r => k v H2 s2 ?_⟩
     rw [sm_plain h1]
     exact r
   refine ⟨_, rfl, rfl, _, rfl, ite2 (fun (h2 : isS w (Str.ofString "within") = true) => ?_) (fun (h2 : ¬ isS w (Str.ofString "within") = true) => ?_)⟩
   · refine ⟨_, rfl, y, C_Turn, dy, _, _, rfl, hy, T.cl_Turn, T.n_Turn_dialect, rfl, _, rfl, _, rfl, d, dd, p, q, f, b1, b2, b3, b4, u, c, rfl, hd, fun v H2 s2 r => k v H2 s2 ?_⟩
     rw [sm_within h2]
     exact r
   refine ⟨_, rfl, rfl, _, rfl, ite2 (fun (h3 : isS w (Str.ofString "doubt") = true) => ?_) (fun (h3 : ¬ isS w (Str.ofString "doubt") = true) => ?_)⟩
   · refine ⟨_, rfl, y, C_Turn, dy, _, _, rfl, hy, T.cl_Turn, T.n_Turn_dialect, rfl, _, rfl, _, rfl, d, dd, p, q, f, b1, b2, b3, b4, u, c, rfl, hd, fun v H2 s2 r => k v H2 s2 ?_⟩
     rw [sm_doubt h3]
     exact r
   refine ⟨_, rfl, rfl, _, rfl, ite2 (fun (h4 : isS w (Str.ofString "behind") = true) => ?_) (fun (h4 : ¬ isS w (Str.ofString "behind") = true) => ?_)⟩
   · refine ⟨_, rfl, y, C_Turn, dy, _, _, rfl, hy, T.cl_Turn, T.n_Turn_dialect, rfl, _, rfl, d, dd, p, q, f, b1, b2, b3, b4, c, rfl, hd, fun v H2 s2 r => k v H2 s2 ?_⟩
     rw [sm_behind h4]
     exact r
   refine ⟨_, rfl, rfl, _, rfl, ite2 (fun (h5 : isS w (Str.ofString "freed") = true) => ?_) (fun (h5 : ¬ isS w (Str.ofString "freed") = true) => ?_)⟩
   · refine ⟨_, rfl, y, C_Turn, dy, _, _, rfl, hy, T.cl_Turn, T.n_Turn_dialect, rfl, _, rfl, _, rfl, d, dd, p, q, f, b1, b2, b3, b4, u, c, rfl, hd, fun v H2 s2 r => k v H2 s2 ?_⟩
     rw [sm_freed h5]
     exact r
   refine ⟨_, rfl, y, C_Turn, dy, _, _, rfl, hy, T.cl_Turn, T.n_Turn_dialect, rfl, _, rfl, _, rfl, d, dd, p, q, f, b1, b2, b3, b4, s, w, u, c, rfl, hd, hs, fun v H2 s2 r => k v H2 s2 ?_⟩
   rw [sm_open (no_of h2) (no_of h5) (no_of h3) (no_of h4)]
   unfold mOpen
   rw [if_neg h1]
   exact r
def sp_check_text (K : PySem.W.Frag) (CN : Addr) : Sp := fun vs H Q E => ∃ v : V, vs = [v] ∧ Knd H v ∧ (∀ z, v = .str z → z.length ≤ 10000) ∧ (isT v = true → ∀ H', Same H H' → Q .non H') ∧ (isT v = false → ∀ H', Same H H' → E (.ref CN) none H')
theorem ok_check_text : FnOk P w K mg base (CXe P w) 4 f_check_text fd_check_text ["thing"] (sp_check_text K C_NoText) := by
 have G_is_text : FnOk P w K mg base CX0 3 f_is_text fd_is_text ["thing"] (sp_is_text K) := ok_is_text T
 refine T.F_check_text.okE sc_check_text (fun vs H Q E h => ?_) (fun cdv A outer s H vs Q E hr h => ?_)
 · obtain ⟨v, rfl, _⟩ := h; rfl
 · have hu := hu_of hr
   have hu0 := hr.units0
   obtain ⟨v, rfl, hk, hb, k, kE⟩ := h
   refine ⟨_, (pss_one (ps_if (pt_not (pt_val (pe_call (k := 3) G_is_text (hr.mono (by decide)) rfl T.g_is_text T.F_is_text.kp T.b_is_text .nil pass0 (pa_cons (pv 0) pa_nil)))) (pss_one (ps_raise rfl T.x_NoText (.inr ⟨_, _, rfl, T.x_DialectError⟩) rfl T.g_NoText (pa_cons pe_str pa_nil))) pss_nil)), ?_⟩
   refine ⟨_, rfl, v, rfl, hk, hb, fun H1 s1 => ⟨_, rfl, ?_⟩⟩
   by_cases hT : isT v = true
   · exact iteNE hT (k hT H1 s1)
   · exact iteNf (no_of hT) ⟨by decide, kE (no_of hT) H1 s1⟩
def sp_walk (K : PySem.W.Frag) (C : Addr) (CN : Addr) : Sp := fun vs H Q E => (∃ (x dx : Addr) (z : Str) (p q f : Str) (b1 b2 b3 b4 : Bool), vs = [.ref x, .str z] ∧ H x = some (.ins C dx (dfl p q f b1 b2 b3 b4)) ∧ Gd p q f ∧ cellOk z ∧ z.length ≤ 2000 ∧ ∀ (tw lk s : Addr) H', H' tw = some (.tup [.ref lk, .ref s, wordV (runM p q f b1 b2 b3 b4 (Str.ofString "row") (Str.ofString "") z.cps.toList).2.2.2]) → H lk = none → H' lk = some (.lst ((runM p q f b1 b2 b3 b4 (Str.ofString "row") (Str.ofString "") z.cps.toList).1.map V.str)) → SqT K H' s [.str (runM p q f b1 b2 b3 b4 (Str.ofString "row") (Str.ofString "") z.cps.toList).2.1, .str (runM p q f b1 b2 b3 b4 (Str.ofString "row") (Str.ofString "") z.cps.toList).2.2.1] → Same H H' → Q (.ref tw) H') ∨ (∃ (x : Addr) (v : V), vs = [.ref x, v] ∧ Knd H v ∧ (∀ z, v = .str z → z.length ≤ 10000) ∧ isT v = false ∧ ∀ H', Same H H' → E (.ref CN) none H')
theorem ok_walk : FnOk P w K mg base (CXe P w) 8 f_walk fd_walk ["dialect", "text"] (sp_walk K C_Dialect C_NoText) := by
 have G_Turn___init__ : FnOk P w K mg base CX0 6 f_Turn___init__ fd_Turn___init__ ["self", "dialect"] (sp_Turn___init__ C_Dialect C_Turn) := ok_Turn___init__ T
 have G_Turn_step : FnOk P w K mg base CX0 3 f_Turn_step fd_Turn_step ["self", "state", "sign"] (sp_Turn_step K C_Dialect C_Turn) := ok_Turn_step T
 have G_check_text : FnOk P w K mg base (CXe P w) 4 f_check_text fd_check_text ["thing"] (sp_check_text K C_NoText) := ok_check_text T
 refine T.F_walk.okE sc_walk (fun vs H Q E h => ?_) (fun cdv A outer s H vs Q E hr h => ?_)
 · rcases h with ⟨x, dx, z, p, q, f, b1, b2, b3, b4, rfl, _⟩ | ⟨x, v, rfl, _⟩ <;> rfl
 · have hu := hu_of hr
   have hu0 := hr.units0
   refine' ⟨_, ?aa, ?bb⟩
   case aa =>
     refine' pss_cons ?s0 ?r0
     case s0 =>
       exact (ps_expr (pe_call (k := 4) G_check_text (hr.mono (by decide)) rfl T.g_check_text T.F_check_text.kp T.b_check_text .nil passE (pa_cons (pv 1) pa_nil)))
     case r0 =>
       refine' pss_cons ?s1 ?r1
       case s1 =>
         exact (ps_set (i := 2) sc_walk.nd rfl (by first | exact Or.inl rfl | exact Or.inr rfl) (pe_make (k := 6) T.M_Turn G_Turn___init__ (hr.mono (by decide)) rfl T.g_Turn T.b_Turn___init__ .nil pass0 (pa_cons (pv 0) pa_nil)))
       case r1 =>
         refine' pss_cons ?s2 ?r2
         case s2 =>
           refine' ps_set (i := 3) sc_walk.nd rfl (by first | exact Or.inl rfl | exact Or.inr rfl) ?v3
           case v3 =>
             refine' pe_lst ?a4
             case a4 =>
               exact pa_nil
         case r2 =>
           refine' pss_cons ?s5 ?r5
           case s5 =>
             exact (ps_set (i := 4) sc_walk.nd rfl (by first | exact Or.inl rfl | exact Or.inr rfl) (pe_gref rfl T.gl_START))
           case r5 =>
             refine' pss_cons ?s6 ?r6
             case s6 =>
               exact (ps_for PassesOwn.leaving rfl (pi_str (pv 1)) (pg_name (i := 5) sc_walk.nd rfl (by first | exact Or.inl rfl | exact Or.inr rfl))
         (pss_cons (ps_set (i := 6) sc_walk.nd rfl (by first | exact Or.inl rfl | exact Or.inr rfl) (pe_meth (k := 3) (pv 2) T.cl_Turn T.m_Turn_step G_Turn_step (hr.mono (by decide)) T.b_Turn_step .nil pass0 (pa_cons (pv 4) (pa_cons (pv 5) pa_nil))))
         (pss_cons (ps_if (pt_cmpR op_eq (pe_ix (ixK_tup K rfl) (pv 6) pe_int (fun _ _ => rfl)) pe_str (nomark _)) (pss_one (ps_ret (pe_tup (pa_cons (pv 3) (pa_cons (pv 4) (pa_cons (pe_ix (ixK_tup K rfl) (pv 6) pe_int (fun _ _ => rfl)) pa_nil)))))) pss_nil)
         (pss_cons (ps_expr (peK_bm K rfl PySem.F.plainAttrs_list PySem.F.slot_list_append PySem.F.type_list_append mt_append (pv 3) (pa_cons (pe_ix (ixK_tup K rfl) (pv 6) pe_int (fun _ _ => rfl)) pa_nil)))
         (pss_one (ps_set (i := 4) sc_walk.nd rfl (by first | exact Or.inl rfl | exact Or.inr rfl) (pe_ix (ixK_tup K rfl) (pv 6) pe_int (fun _ _ => rfl))))))))
             case r6 =>
               refine' pss_one ?s7
               case s7 =>
                 refine' ps_ret ?v8
                 case v8 =>
                   refine' pe_tup ?a9
                   case a9 =>
                     refine' pa_cons ?x10 ?y10 ?z10
                     case z10 => exact rfl
                     case x10 =>
                       exact (pv 3)
                     case y10 =>
                       refine' pa_cons ?x11 ?y11 ?z11
                       case z11 => exact rfl
                       case x11 =>
                         exact (pv 4)
                       case y11 =>
                         refine' pa_cons ?x12 ?y12 ?z12
                         case z12 => exact rfl
                         case x12 =>
                           exact pe_non
                         case y12 =>
                           exact pa_nil
   rcases h with ⟨x, dx, z, p, q, f, b1, b2, b3, b4, rfl, hx, g, hz, hz2, k⟩ | ⟨x, v, rfl, hkv, hbv, hT, kE⟩
   rotate_left
   · exact ⟨_, rfl, v, rfl, hkv, hbv, (fun e => by rw [hT] at e; cases e), fun _ H1 s1 => kE H1 s1⟩
   have hTz : isT (.str z) = true := by
     show (decide (z.length ≤ 2000) && textOk z) = true
     rw [text_ok hz, decide_eq_true hz2]; rfl
   refine ⟨_, rfl, .str z, rfl, .str z, (fun z' e => by cases e; omega), (fun _ H1 s1 => ?_), (fun e => by rw [hTz] at e; cases e)⟩
   refine ⟨_, rfl, fun y dy hy hdy ne => ⟨y, dy, x, dx, p, q, f, b1, b2, b3, b4, rfl, upd_same, made_old hy hdy (s1 _ _ hx), g, fun H2 hT kp => ⟨rfl, ?_⟩⟩⟩
   have s2 := s1.trans (same_make hy hdy kp)
   refine ⟨by decide, fun lk hlk => ?_⟩
   have s3 := same_new (o := HO.lst []) hlk
   have hl0 : H lk = none := s2.free hlk
   refine ⟨_, rfl, z, rfl, ?_⟩
   refine for_str (fun i σ H4 => Same H H4 ∧ ∃ (w u : Str) (s : Addr) (ks : List Str) (v1 v2 : Option V), σ = [some (.ref x), some (.str z), some (.ref y), some (.ref lk), some (.ref s), v1, v2] ∧ Tn C_Dialect C_Turn H4 y p q f b1 b2 b3 b4 ∧ H4 lk = some (.lst (ks.map V.str)) ∧ SqT K H4 s [.str w, .str u] ∧ ks.length = i ∧ runM p q f b1 b2 b3 b4 (Str.ofString "row") (Str.ofString "") z.cps.toList = appR ks (runM p q f b1 b2 b3 b4 w u (z.cps.toList.drop i))) ⟨s2.trans s3, _, _, a_START, [], _, _, rfl, hT.mono s3, upd_same, .inr T.tu_START, rfl, rfl⟩ ?_ ?_
   · rintro i c σ H4 hi ⟨s4, w, u, s, ks, v1, v2, rfl, hT4, h4, hs, hkl, er⟩
     rw [drop_cons hi] at er
     have hil := (List.getElem?_eq_some_iff.mp hi).1
     rw [Array.length_toList] at hil
     have hil : i < z.length := hil
     obtain ⟨dy4, d4, dd4, ey4, ed4⟩ := hT4.ok
     refine ⟨_, rfl, y, dy4, _, rfl, ey4, rfl, _, rfl, _, rfl, y, s, w, u, c, p, q, f, b1, b2, b3, b4, rfl, hT4, hs, fun v H5 s5 r => ?_⟩
     have h5 := s5 _ _ h4
     cases hr5 : stepM p q f b1 b2 b3 b4 w u c with
     | go kd w3 u3 =>
       rw [hr5] at r
       obtain ⟨hk, a, b, rfl, ha, hb⟩ := r
       refine ⟨_, rfl, a, _, _, _, rfl, rfl, ha, rfl, rfl, _, rfl, iteBf hk ?_⟩
       refine ⟨_, rfl, .inl ⟨rfl, _, SqL.of h5⟩, _, rfl, a, _, _, _, rfl, rfl, ha, rfl, lk, _, _, rfl, rfl, h5, ?_, ?_⟩
       · rw [List.length_map]; exact Nat.lt_of_le_of_lt (show ks.length ≤ 2000 by omega) (by decide)
       refine ⟨_, rfl, a, _, _, _, rfl, rfl, sqt_but h5 ha, rfl, same_set hl0 (s4.trans s5), w3, u3, b, ks ++ [kd], _, _, rfl, Tn.but h5 (hT4.mono s5), ?_, sqt_but h5 hb, by rw [List.length_append, hkl]; rfl, er.trans (run_go hr5)⟩
       rw [List.map_append]; exact upd_same
     | flt e =>
       rw [hr5] at r
       obtain ⟨a, rfl, ha⟩ := r
       refine ⟨_, rfl, a, _, _, _, rfl, rfl, ha, rfl, rfl, _, rfl, iteBt (isS_self _) ?_⟩
       refine ⟨_, rfl, _, rfl, _, rfl, a, _, _, _, rfl, rfl, ha, rfl, (by show 3 ≤ sizeLine; decide), fun t ht => ?_⟩
       have st := same_new (o := HO.tup [.ref lk, .ref s, .str e]) ht
       rw [run_flt hr5] at er
       refine k t lk s _ ?_ hl0 ?_ ?_ ((s4.trans s5).trans st)
       · rw [er]; exact upd_same
       · rw [er]; exact st _ _ h5
       · rw [er]; exact sqt_mono (s5.trans st) hs
   · rintro σ H4 ⟨s4, w, u, s, ks, v1, v2, rfl, hT4, h4, hs, hkl, er⟩
     rw [List.drop_length, run_end] at er
     refine ⟨_, rfl, _, rfl, (by show 3 ≤ sizeLine; decide), fun t ht => ?_⟩
     have st := same_new (o := HO.tup [.ref lk, .ref s, .non]) ht
     refine k t lk s _ ?_ hl0 ?_ ?_ (s4.trans st)
     · rw [er]; exact upd_same
     · rw [er]; exact st _ _ h4
     · rw [er]; exact sqt_mono st hs
def sp_end_of (K : PySem.W.Frag) : Sp := fun vs H Q _ => ∃ (tw lk s : Addr) (ks : List Str) (w u : Str) (o : Option Str), vs = [.ref tw] ∧ H tw = some (.tup [.ref lk, .ref s, wordV o]) ∧ H lk = some (.lst (ks.map V.str)) ∧ SqT K H s [.str w, .str u] ∧ (o = none → isRow w u = true → Q .non H) ∧ ((o = none → isRow w u = false) → ∀ t, H t = none → Q (.ref t) (upd H t (.tup [.int ks.length, .int (cntE ks), .str (o.getD (Str.ofString "cut"))])))
theorem ok_end_of : FnOk P w K mg base CX0 1 f_end_of fd_end_of ["walked"] (sp_end_of K) := by
 refine T.F_end_of.ok sc_end_of (fun vs H Q E h => ?_) (fun cdv A outer s H vs Q E hr h => ?_)
 · obtain ⟨tw, lk, s, ks, w, u, o, rfl, _⟩ := h; rfl
 · have hu := hu_of hr
   have hu0 := hr.units0
   obtain ⟨tw, lk, s, ks, w, u, o, rfl, ht, hk, hs, k1, k2⟩ := h
   have hT : SqT K H tw [.ref lk, .ref s, wordV o] := SqT.of ht
   refine ⟨_, (pss_cons (ps_set (i := 1) sc_end_of.nd rfl (by first | exact Or.inl rfl | exact Or.inr rfl) (pe_ix (ixK_tup K rfl) (pv 0) pe_int (fun _ _ => rfl)))
     (pss_cons (ps_set (i := 2) sc_end_of.nd rfl (by first | exact Or.inl rfl | exact Or.inr rfl) (pe_ix (ixK_tup K rfl) (pv 0) pe_int (fun _ _ => rfl)))
     (pss_cons (ps_if (PW.pt (pw_and (pt_cmpR op_isN (pv 2) pe_non (nomark _)) (pw_and1 (pt_cmpR (op_eqT K rfl hu0) (pe_ix (ixK_tup K rfl) (pv 0) pe_int (fun _ _ => rfl)) (pe_gref rfl T.gl_START) (nomark _))))) (pss_one (ps_ret pe_non)) pss_nil)
     (pss_one (ps_ret (pe_tup (pa_cons (pe_callB (callK_len_seq K rfl) rfl T.no_len (by decide +kernel) (pa_cons (pv 1) pa_nil)) (pa_cons (peK_bm K rfl PySem.F.plainAttrs_list PySem.F.slot_list_count PySem.F.type_list_count (mtK_countL K rfl) (pv 1) (pa_cons pe_str pa_nil)) (pa_cons (pe_ifExp (pt_cmpR op_isN (pv 2) pe_non (nomark _)) pe_str (pv 2)) pa_nil))))))))), ?_⟩
   refine ⟨_, rfl, tw, _, _, _, rfl, rfl, hT, rfl, _, rfl, tw, _, _, _, rfl, rfl, hT, rfl, ?_⟩
   cases o with
   | none =>
     refine ⟨_, rfl, rfl, _, rfl, iteBt (decide_eq_true rfl) ?_⟩
     refine ⟨_, rfl, tw, _, _, _, rfl, rfl, hT, rfl, s, a_START, _, _, rfl, rfl, hs, .inr T.tu_START, rfl, rfl, _, rfl, ite2 (fun (h1 : isRow w u = true) => ?_) (fun (h1 : ¬ isRow w u = true) => ?_)⟩
     · exact k1 rfl h1
     · refine ⟨_, rfl, lk, _, rfl, .inl (SqL.of hk), _, rfl, .inl ⟨rfl, _, SqL.of hk⟩, lk, _, _, rfl, rfl, SqL.of hk, rfl, strs_flat ks, _, rfl, rfl, _, rfl, iteBt (decide_eq_true rfl) ?_⟩
       rw [List.length_map]
       exact ⟨(by show 3 ≤ sizeLine; decide), fun t ht => k2 (fun _ => no_of h1) t ht⟩
   | some e =>
     refine ⟨_, rfl, rfl, _, rfl, iteBf (decide_eq_false (by intro z; cases z)) (iteF ?_)⟩
     refine ⟨_, rfl, lk, _, rfl, .inl (SqL.of hk), _, rfl, .inl ⟨rfl, _, SqL.of hk⟩, lk, _, _, rfl, rfl, SqL.of hk, rfl, strs_flat ks, _, rfl, rfl, _, rfl, iteBf (decide_eq_false (by intro z; cases z)) ?_⟩
     rw [List.length_map]
     exact ⟨_, rfl, (by show 3 ≤ sizeLine; decide), fun t ht => k2 (fun z => by cases z) t ht⟩
def sp_table_of (K : PySem.W.Frag) : Sp := fun vs H Q _ => ∃ (z : Str) (lk : Addr) (ks : List Str), vs = [.str z, .ref lk] ∧ H lk = some (.lst (ks.map V.str)) ∧ z.length ≤ 2000 ∧ ∀ (l : Addr) (es : List V) (H' : Hp), H l = none → H' l = some (.lst es) → V.ref l ∉ es → es.Nodup → Rws H H' es (tabM z ks) → Same H H' → Q (.ref l) H'
theorem ok_table_of : FnOk P w K mg base CX0 1 f_table_of fd_table_of ["text", "kinds"] (sp_table_of K) := by
 refine T.F_table_of.ok sc_table_of (fun vs H Q E h => ?_) (fun cdv A outer s H vs Q E hr h => ?_)
 · obtain ⟨z, lk, ks, rfl, _⟩ := h; rfl
 · have hu := hu_of hr
   have hu0 := hr.units0
   obtain ⟨z, lk, ks, rfl, hk, hz, k⟩ := h
   refine ⟨_, (pss_cons (ps_set (i := 2) sc_table_of.nd rfl (by first | exact Or.inl rfl | exact Or.inr rfl) (pe_lst pa_nil))
     (pss_cons (ps_set (i := 3) sc_table_of.nd rfl (by first | exact Or.inl rfl | exact Or.inr rfl) (pe_lst pa_nil))
     (pss_cons (ps_set (i := 4) sc_table_of.nd rfl (by first | exact Or.inl rfl | exact Or.inr rfl) pe_str)
     (pss_cons (ps_for PassesOwn.never rfl (piK_zipS K rfl rfl T.no_zip (pa_cons (pv 0) (pa_cons (pv 1) pa_nil))) (pgK_tup K rfl 2 rfl (pgs_cons (pg_name (i := 5) sc_table_of.nd rfl (by first | exact Or.inl rfl | exact Or.inr rfl)) (pgs_cons (pg_name (i := 6) sc_table_of.nd rfl (by first | exact Or.inl rfl | exact Or.inr rfl)) pgs_nil)))
     (pss_one (ps_if (pt_cmpR op_eq (pv 6) pe_str (nomark _)) (pss_one (ps_set (i := 4) sc_table_of.nd rfl (by first | exact Or.inl rfl | exact Or.inr rfl) (pe_op op_add_str (pv 4) (pv 5)))) (pss_one (ps_if (pt_cmpR op_eq (pv 6) pe_str (nomark _)) (pss_cons (ps_expr (peK_bm K rfl PySem.F.plainAttrs_list PySem.F.slot_list_append PySem.F.type_list_append mt_append (pv 3) (pa_cons (pv 4) pa_nil)))
     (pss_one (ps_set (i := 4) sc_table_of.nd rfl (by first | exact Or.inl rfl | exact Or.inr rfl) pe_str))) (pss_one (ps_if (pt_cmpR op_eq (pv 6) pe_str (nomark _)) (pss_cons (ps_expr (peK_bm K rfl PySem.F.plainAttrs_list PySem.F.slot_list_append PySem.F.type_list_append mt_append (pv 3) (pa_cons (pv 4) pa_nil)))
     (pss_cons (ps_expr (peK_bm K rfl PySem.F.plainAttrs_list PySem.F.slot_list_append PySem.F.type_list_append mt_append (pv 2) (pa_cons (pv 3) pa_nil)))
     (pss_cons (ps_set (i := 3) sc_table_of.nd rfl (by first | exact Or.inl rfl | exact Or.inr rfl) (pe_lst pa_nil))
     (pss_one (ps_set (i := 4) sc_table_of.nd rfl (by first | exact Or.inl rfl | exact Or.inr rfl) pe_str))))) pss_nil)))))))
     (pss_one (ps_ret (pv 2))))))), ?_⟩
   refine ⟨by decide, fun lt hlt => ?_⟩
   have s1 := same_new (o := HO.lst []) hlt
   refine ⟨by decide, fun r0 hr0 => ?_⟩
   have s2 := same_new (o := HO.lst []) hr0
   have a1 : (upd (upd H lt (.lst [])) r0 (.lst [])) lt = some (.lst []) := s2 _ _ upd_same
   have a2 : (upd (upd H lt (.lst [])) r0 (.lst [])) r0 = some (.lst []) := upd_same
   have n0 : r0 ≠ lt := fun q => by rw [q, upd_same] at hr0; cases hr0
   have fr := s1.free hr0
   have s12 := s1.trans s2
   generalize upd (upd H lt (.lst [])) r0 (.lst []) = H1 at a1 a2 s12 ⊢
   refine ⟨_, rfl, _, rfl, z, lk, rfl, ⟨_, SqL.of (s12 _ _ hk)⟩, ?_⟩
   have hz' : z.cps.size ≤ 2000 := hz
   have e0 : (Str.ofString "").length = 0 := by decide +kernel
   refine for_zipS (K := K) (z := z) (b := lk) (ys := ks.map V.str) (fun i σ H2 => Same H H2 ∧ ∃ rr es row cell v5 v6, σ = [some (.str z), some (.ref lk), some (.ref lt), some (.ref rr), some (.str cell), v5, v6] ∧ H rr = none ∧ H2 lt = some (.lst es) ∧ H2 rr = some (.lst (row.map V.str)) ∧ rr ≠ lt ∧ V.ref lt ∉ es ∧ V.ref rr ∉ es ∧ es.Nodup ∧ ∃ rows, Rws H H2 es rows ∧ groL gro0 (z.cps.toList.take i) (ks.take i) = ⟨rows, row, cell⟩ ∧ cell.length ≤ i ∧ row.length ≤ i ∧ es.length ≤ i) ⟨s12, r0, [], [], _, _, _, rfl, fr, a1, a2, n0, by simp, by simp, List.nodup_nil, [], .nil, rfl, by rw [e0]; exact Nat.le_refl _, Nat.le_refl _, Nat.le_refl _⟩ (fun i σ H2 _ q => SqL.of (q.1 _ _ hk)) ?_ ?_
   · rintro i c y t σ H2 hc hy ht ⟨s3, rr, es, row, cell, v5, v6, rfl, fr', b1, b2, nr, n1, n2, nd, rows, rw', hg, l1, l2, l3⟩
     obtain ⟨kd, hkd, rfl⟩ := strV_at hy
     have hil := (Array.getElem?_eq_some_iff.mp hc).1
     have hc' : z.cps.toList[i]? = some c := by simpa using hc
     have hgn := groL_take gro0 z.cps.toList ks i c kd hc' hkd
     rw [hg] at hgn
     have st := same_new (o := HO.tup [.str (sg c), .str kd]) ht
     refine ⟨t, _, rfl, SqT.of upd_same, rfl, _, _, rfl, _, _, rfl, rfl, ?_⟩
     have s4 := s3.trans st
     replace b1 := st _ _ b1
     replace b2 := st _ _ b2
     replace rw' := Rws.mono st rw'
     generalize upd H2 t (.tup [.str (sg c), .str kd]) = H3 at s4 b1 b2 rw' ⊢
     clear st ht s3
     unfold gro at hgn
     refine ⟨_, rfl, rfl, _, rfl, ite2 (fun h1 => ?_) (fun h1 => ?_)⟩
     · have h1 : isS kd (Str.ofString "put") = true := h1
       rw [if_pos h1] at hgn
       refine ⟨_, rfl, _, rfl, _, _, rfl, rfl, Nat.le_trans (show cell.length + 1 ≤ 2001 by omega) (by decide), ?_⟩
       exact ⟨s4, rr, es, row, _, _, _, rfl, fr', b1, b2, nr, n1, n2, nd, rows, rw', hgn, by rw [app_len]; show cell.length + 1 ≤ _; omega, by omega, by omega⟩
     have h1 : ¬ isS kd (Str.ofString "put") = true := h1
     rw [if_neg h1] at hgn
     refine ⟨_, rfl, rfl, _, rfl, ite2 (fun h2 => ?_) (fun h2 => ?_)⟩
     · have h2 : isS kd (Str.ofString "part") = true := h2
       rw [if_pos h2] at hgn
       refine ⟨_, rfl, .inl ⟨rfl, _, SqL.of b2⟩, _, rfl, rr, _, _, rfl, rfl, b2, by rw [List.length_map]; exact Nat.lt_of_le_of_lt l2 (Nat.lt_of_lt_of_le (show i < 2001 by omega) (by decide)), ?_⟩
       refine ⟨same_set fr' s4, rr, es, row ++ [cell], _, _, _, rfl, fr', (upd_ne (Ne.symm nr)).trans b1, by rw [upd_same, List.map_append]; rfl, nr, n1, n2, nd, rows, Rws.but n2 rw', hgn, by rw [e0]; omega, by rw [List.length_append]; show row.length + 1 ≤ _; omega, by omega⟩
     have h2 : ¬ isS kd (Str.ofString "part") = true := h2
     rw [if_neg h2] at hgn
     refine ⟨_, rfl, rfl, _, rfl, ite2 (fun h3 => ?_) (fun h3 => ?_)⟩
     · have h3 : isS kd (Str.ofString "end") = true := h3
       rw [if_pos h3] at hgn
       refine ⟨_, rfl, .inl ⟨rfl, _, SqL.of b2⟩, _, rfl, rr, _, _, rfl, rfl, b2, by rw [List.length_map]; exact Nat.lt_of_le_of_lt l2 (Nat.lt_of_lt_of_le (show i < 2001 by omega) (by decide)), ?_⟩
       have c1 : (upd H3 rr (.lst (row.map V.str ++ [.str cell]))) lt = some (.lst es) := (upd_ne (Ne.symm nr)).trans b1
       refine ⟨_, rfl, .inl ⟨rfl, _, SqL.of c1⟩, _, rfl, lt, es, _, rfl, rfl, c1, Nat.lt_of_le_of_lt l3 (Nat.lt_of_lt_of_le (show i < 2001 by omega) (by decide)), ?_⟩
       have s5 : Same H (upd (upd H3 rr (.lst (row.map V.str ++ [.str cell]))) lt (.lst (es ++ [.ref rr]))) := same_set hlt (same_set fr' s4)
       have d1 : (upd (upd H3 rr (.lst (row.map V.str ++ [.str cell]))) lt (.lst (es ++ [.ref rr]))) lt = some (.lst (es ++ [.ref rr])) := upd_same
       have d2 : (upd (upd H3 rr (.lst (row.map V.str ++ [.str cell]))) lt (.lst (es ++ [.ref rr]))) rr = some (.lst ((row ++ [cell]).map V.str)) := by rw [upd_ne nr, upd_same, List.map_append]; rfl
       have nl : V.ref lt ∉ es ++ [V.ref rr] := fun q => by
         rcases List.mem_append.mp q with q | q
         · exact n1 q
         · exact nr (V.ref.inj (List.mem_singleton.mp q)).symm
       have rw5 : Rws H (upd (upd H3 rr (.lst (row.map V.str ++ [.str cell]))) lt (.lst (es ++ [.ref rr]))) (es ++ [.ref rr]) (rows ++ [row ++ [cell]]) := Rws.app (Rws.but n1 (Rws.but n2 rw')) (.cons ⟨rr, rfl, fr', d2⟩ .nil)
       have nd5 : (es ++ [V.ref rr]).Nodup := List.nodup_append.mpr ⟨nd, by simp, fun x hx y hy e => n2 (by rw [List.mem_singleton.mp hy] at e; exact e ▸ hx)⟩
       generalize upd (upd H3 rr (.lst (row.map V.str ++ [.str cell]))) lt (.lst (es ++ [.ref rr])) = H5 at s5 d1 d2 rw5 ⊢
       refine ⟨by decide, fun r2 hr2 => ?_⟩
       have sn := same_new (o := HO.lst []) hr2
       have nr2 : r2 ≠ lt := fun q => by rw [q, d1] at hr2; cases hr2
       refine ⟨s5.trans sn, r2, es ++ [.ref rr], [], _, _, _, rfl, s5.free hr2, sn _ _ d1, upd_same, nr2, nl, fun q => ?_, nd5, _, Rws.mono sn rw5, hgn, by rw [e0]; omega, Nat.zero_le _, by rw [List.length_append]; show es.length + 1 ≤ _; omega⟩
       obtain ⟨_, ys, hys⟩ := rw5.has q
       rw [hys] at hr2; cases hr2
     have h3 : ¬ isS kd (Str.ofString "end") = true := h3
     rw [if_neg h3] at hgn
     exact ⟨s4, rr, es, row, cell, _, _, rfl, fr', b1, b2, nr, n1, n2, nd, rows, rw', hgn, by omega, by omega, by omega⟩
   · rintro σ H2 ⟨s3, rr, es, row, cell, v5, v6, rfl, fr', b1, b2, nr, n1, n2, nd, rows, rw', hg, l1, l2, l3⟩
     refine ⟨_, rfl, k lt es H2 hlt b1 n1 nd ?_ s3⟩
     have e : min z.cps.size (ks.map V.str).length = min z.cps.toList.length ks.length := by
       have ez : z.cps.toList.length = z.cps.size := Array.length_toList
       rw [List.length_map, ez]
     rw [e, groL_min] at hg
     have : tabM z ks = rows := by unfold tabM; rw [hg]
     rw [this]
     exact rw'
def sp_uneven_row (K : PySem.W.Frag) : Sp := fun vs H Q _ => ∃ (lk : Addr) (ks : List Str), vs = [.ref lk] ∧ H lk = some (.lst (ks.map V.str)) ∧ (unP 0 0 1 0 ks = none → ∀ H', Same H H' → Q .non H') ∧ (∀ a b, unP 0 0 1 0 ks = some (a, b) → ∀ t H', H' t = some (.tup [.int (a : Nat), .int (b : Nat), .str (Str.ofString "uneven")]) → Same H H' → Q (.ref t) H')
theorem ok_uneven_row : FnOk P w K mg base CX0 1 f_uneven_row fd_uneven_row ["kinds"] (sp_uneven_row K) := by
 refine T.F_uneven_row.ok sc_uneven_row (fun vs H Q E h => ?_) (fun cdv A outer s H vs Q E hr h => ?_)
 · obtain ⟨lk, ks, rfl, _⟩ := h; rfl
 · have hu := hu_of hr
   have hu0 := hr.units0
   obtain ⟨lk, ks, rfl, hk, k1, k2⟩ := h
   refine ⟨_, (pss_cons (ps_set (i := 1) sc_uneven_row.nd rfl (by first | exact Or.inl rfl | exact Or.inr rfl) pe_int)
     (pss_cons (ps_set (i := 2) sc_uneven_row.nd rfl (by first | exact Or.inl rfl | exact Or.inr rfl) pe_int)
     (pss_cons (ps_set (i := 3) sc_uneven_row.nd rfl (by first | exact Or.inl rfl | exact Or.inr rfl) pe_int)
     (pss_cons (ps_for PassesOwn.never rfl (piK_enum K rfl rfl T.no_enumerate (pa_cons (pv 0) pa_nil)) (pgK_tup K rfl 2 rfl (pgs_cons (pg_name (i := 4) sc_uneven_row.nd rfl (by first | exact Or.inl rfl | exact Or.inr rfl)) (pgs_cons (pg_name (i := 5) sc_uneven_row.nd rfl (by first | exact Or.inl rfl | exact Or.inr rfl)) pgs_nil)))
     (pss_one (ps_if (pt_cmpR op_eq (pv 5) pe_str (nomark _)) (pss_one (ps_set (i := 3) sc_uneven_row.nd rfl (by first | exact Or.inl rfl | exact Or.inr rfl) (pe_op op_add (pv 3) pe_int))) (pss_one (ps_if (pt_cmpR op_eq (pv 5) pe_str (nomark _)) (pss_cons (ps_if (pt_cmpR op_eq (pv 2) pe_int (nomark _)) (pss_one (ps_set (i := 1) sc_uneven_row.nd rfl (by first | exact Or.inl rfl | exact Or.inr rfl) (pv 3))) (pss_one (ps_if (pt_cmpR op_ne (pv 3) (pv 1) (nomark _)) (pss_one (ps_ret (pe_tup (pa_cons (pv 4) (pa_cons (pv 2) (pa_cons pe_str pa_nil)))))) pss_nil)))
     (pss_cons (ps_set (i := 2) sc_uneven_row.nd rfl (by first | exact Or.inl rfl | exact Or.inr rfl) (pe_op op_add (pv 2) pe_int))
     (pss_one (ps_set (i := 3) sc_uneven_row.nd rfl (by first | exact Or.inl rfl | exact Or.inr rfl) pe_int)))) pss_nil)))))
     (pss_one (ps_ret pe_non)))))), ?_⟩
   refine ⟨_, rfl, lk, rfl, ⟨_, SqL.of hk⟩, ?_⟩
   refine for_enum (K := K) (a := lk) (xs := ks.map V.str) (fun i σ H2 => Same H H2 ∧ ∃ (fi ro ce : Nat) (v4 v5 : Option V), σ = [some (.ref lk), some (.int fi), some (.int ro), some (.int ce), v4, v5] ∧ unP 0 0 1 0 ks = unP fi ro ce i (ks.drop i)) ⟨Same.refl _, 0, 0, 1, _, _, rfl, rfl⟩ (fun i σ H2 _ q => SqL.of (q.1 _ _ hk)) ?_ ?_
   · rintro i x t σ H2 hx ht ⟨s2, fi, ro, ce, v4, v5, rfl, hu⟩
     obtain ⟨kd, hkd, rfl⟩ := strV_at hx
     have st := same_new (o := HO.tup [.int i, .str kd]) ht
     refine ⟨t, _, rfl, SqT.of upd_same, rfl, _, _, rfl, _, _, rfl, rfl, ?_⟩
     have s3 := s2.trans st
     generalize upd H2 t (.tup [.int i, .str kd]) = H3 at s3 ⊢
     rw [dropG hkd, unP_cons] at hu
     refine ⟨_, rfl, rfl, _, rfl, ite2 (fun (h1 : isS kd (Str.ofString "part") = true) => ?_) (fun (h1 : ¬ isS kd (Str.ofString "part") = true) => ?_)⟩
     · rw [if_pos h1] at hu
       exact ⟨_, rfl, _, _, rfl, rfl, s3, fi, ro, ce + 1, _, _, rfl, hu⟩
     rw [if_neg h1] at hu
     refine ⟨_, rfl, rfl, _, rfl, ite2 (fun (h2 : isS kd (Str.ofString "end") = true) => ?_) (fun (h2 : ¬ isS kd (Str.ofString "end") = true) => ?_)⟩
     · rw [if_pos h2] at hu
       refine ⟨_, rfl, rfl, _, rfl, rd2i (fun h3 => ?_) (fun h3 => ?_)⟩
       · have h3 : ro = 0 := by omega
         rw [if_pos h3] at hu
         subst h3
         exact ⟨_, rfl, _, rfl, _, _, rfl, rfl, s3, ce, 1, 1, _, _, rfl, hu⟩
       · have h3 : ¬ ro = 0 := fun q => h3 (by rw [q]; rfl)
         rw [if_neg h3] at hu
         refine ⟨_, rfl, _, rfl, rfl, _, rfl, rd2in (fun h4 => ?_) (fun h4 => ?_)⟩
         · have h4 : ¬ ce = fi := fun q => h4 (by rw [q])
           rw [if_neg h4] at hu
           exact ⟨_, rfl, _, rfl, (by show 3 ≤ sizeLine; decide), fun u hu5 => k2 _ _ hu u _ upd_same (s3.trans (same_new hu5))⟩
         · have h4 : ce = fi := by omega
           rw [if_pos h4] at hu
           exact ⟨_, rfl, _, _, rfl, rfl, s3, fi, ro + 1, 1, _, _, rfl, hu⟩
     · rw [if_neg h2] at hu
       exact ⟨s3, fi, ro, ce, _, _, rfl, hu⟩
   · rintro σ H2 ⟨s2, fi, ro, ce, v4, v5, rfl, hu⟩
     rw [List.length_map, List.drop_eq_nil_of_le (Nat.le_refl _)] at hu
     exact k1 hu H2 s2
def sp_fall_of (K : PySem.W.Frag) : Sp := fun vs H Q _ => ∃ (tw lk s : Addr) (ev : Bool) (ks : List Str) (w u : Str) (o : Option Str), vs = [.ref tw, .bl ev] ∧ H tw = some (.tup [.ref lk, .ref s, wordV o]) ∧ H lk = some (.lst (ks.map V.str)) ∧ SqT K H s [.str w, .str u] ∧ (∀ e, o = some e → e ≠ Str.ofString "") ∧ ∀ v H', fallV (fallT ev (ks, w, u, o)) H' v → Same H H' → Q v H'
theorem ok_fall_of : FnOk P w K mg base CX0 2 f_fall_of fd_fall_of ["walked", "even"] (sp_fall_of K) := by
 have G_end_of : FnOk P w K mg base CX0 1 f_end_of fd_end_of ["walked"] (sp_end_of K) := ok_end_of T
 have G_uneven_row : FnOk P w K mg base CX0 1 f_uneven_row fd_uneven_row ["kinds"] (sp_uneven_row K) := ok_uneven_row T
 refine T.F_fall_of.ok sc_fall_of (fun vs H Q E h => ?_) (fun cdv A outer s H vs Q E hr h => ?_)
 · obtain ⟨tw, lk, s, ev, ks, w, u, o, rfl, _⟩ := h; rfl
 · have hu := hu_of hr
   have hu0 := hr.units0
   obtain ⟨tw, lk, s, ev, ks, w, u, o, rfl, ht, hk, hs, hne, k⟩ := h
   refine ⟨_, (pss_cons (ps_set (i := 2) sc_fall_of.nd rfl (by first | exact Or.inl rfl | exact Or.inr rfl) (pe_ifExp (pt_val (pv 1)) (pe_call (k := 1) G_uneven_row (hr.mono (by decide)) rfl T.g_uneven_row T.F_uneven_row.kp T.b_uneven_row .nil pass0 (pa_cons (pe_ix (ixK_tup K rfl) (pv 0) pe_int (fun _ _ => rfl)) pa_nil)) pe_non))
     (pss_one (ps_ret (pe_ifExp (pt_cmpR op_isN (pv 2) pe_non (nomark _)) (pe_call (k := 1) G_end_of (hr.mono (by decide)) rfl T.g_end_of T.F_end_of.kp T.b_end_of .nil pass0 (pa_cons (pv 0) pa_nil)) (pv 2))))), ?_⟩
   refine ⟨_, rfl, ev, rfl, ?_⟩
   cases ev with
   | false =>
     refine iteF ?_
     refine ⟨_, rfl, rfl, _, rfl, rdD rfl ⟨_, rfl, tw, lk, s, ks, w, u, o, rfl, ht, hk, hs, fun ho hrow => k _ _ (endV_n ho hrow) (Same.refl H), fun hcond t5 ht5 => k _ _ (endV_s hcond hne upd_same) (same_new ht5)⟩⟩
   | true =>
     refine iteT ⟨_, rfl, tw, _, _, _, rfl, rfl, SqT.of ht, rfl, lk, ks, rfl, hk, fun hu H1 s1 => ?_, fun a b hu t H1 hh s1 => ?_⟩
     · have e : fallT true (ks, w, u, o) = endT (ks, w, u, o) := by unfold fallT; rw [if_pos rfl, hu]
       rw [e] at k
       refine ⟨_, rfl, rfl, _, rfl, rdD rfl ⟨_, rfl, tw, lk, s, ks, w, u, o, rfl, s1 _ _ ht, s1 _ _ hk, sqt_mono s1 hs, fun ho hrow => k _ _ (endV_n ho hrow) s1, fun hcond t5 ht5 => k _ _ (endV_s hcond hne upd_same) (s1.trans (same_new ht5))⟩⟩
     · have e : fallT true (ks, w, u, o) = some (a, b, Str.ofString "uneven") := by unfold fallT; rw [if_pos rfl, hu]
       rw [e] at k
       exact ⟨_, rfl, rfl, _, rfl, rdDn (fun z => nomatch z) ⟨_, rfl, k _ _ ⟨t, rfl, hh⟩ s1⟩⟩
def sp_fallen (K : PySem.W.Frag) (C : Addr) (CN : Addr) : Sp := fun vs H Q E => (∃ (ld : Addr) (z : Str) (ev : Bool) (xs : List V) (cs : List Cho), vs = [.ref ld, .str z, .bl ev] ∧ H ld = some (.lst xs) ∧ Mks C H xs cs ∧ (∀ x ∈ cs, GdC x) ∧ cs.length ≤ 60 ∧ cellOk z ∧ z.length ≤ 2000 ∧ ∀ l ps fs H', H l = none → H' l = some (.lst ps) → Fls H' ps fs → fs.Perm (fallsM ev z cs cs.length) → fs.Pairwise (fun x y => encF x < encF y) → Same H H' → Q (.ref l) H') ∨ (∃ (ld : Addr) (v : V) (ev : Bool), vs = [.ref ld, v, .bl ev] ∧ Knd H v ∧ (∀ z, v = .str z → z.length ≤ 10000) ∧ isT v = false ∧ ∀ H', Same H H' → E (.ref CN) none H')
theorem ok_fallen : FnOk P w K mg base (CXe P w) 9 f_fallen fd_fallen ["dialects", "text", "even"] (sp_fallen K C_Dialect C_NoText) := by
 have G_check_text : FnOk P w K mg base (CXe P w) 4 f_check_text fd_check_text ["thing"] (sp_check_text K C_NoText) := ok_check_text T
 have G_fall_of : FnOk P w K mg base CX0 2 f_fall_of fd_fall_of ["walked", "even"] (sp_fall_of K) := ok_fall_of T
 have G_walk : FnOk P w K mg base (CXe P w) 8 f_walk fd_walk ["dialect", "text"] (sp_walk K C_Dialect C_NoText) := ok_walk T
 refine T.F_fallen.okE sc_fallen (fun vs H Q E h => ?_) (fun cdv A outer s H vs Q E hr h => ?_)
 · rcases h with ⟨ld, z, ev, xs, cs, rfl, _⟩ | ⟨ld, v, ev, rfl, _⟩ <;> rfl
 · have hu := hu_of hr
   have hu0 := hr.units0
   refine ⟨_, (pss_cons (ps_expr (pe_call (k := 4) G_check_text (hr.mono (by decide)) rfl T.g_check_text T.F_check_text.kp T.b_check_text .nil passE (pa_cons (pv 1) pa_nil)))
     (pss_cons (ps_set (i := 3) sc_fallen.nd rfl (by first | exact Or.inl rfl | exact Or.inr rfl) (pe_lst pa_nil))
     (pss_cons (ps_for PassesOwn.leaving rfl (piK_enum K rfl rfl T.no_enumerate (pa_cons (pv 0) pa_nil)) (pgK_tup K rfl 2 rfl (pgs_cons (pg_name (i := 4) sc_fallen.nd rfl (by first | exact Or.inl rfl | exact Or.inr rfl)) (pgs_cons (pg_name (i := 5) sc_fallen.nd rfl (by first | exact Or.inl rfl | exact Or.inr rfl)) pgs_nil)))
     (pss_cons (ps_set (i := 6) sc_fallen.nd rfl (by first | exact Or.inl rfl | exact Or.inr rfl) (pe_call (k := 2) G_fall_of (hr.mono (by decide)) rfl T.g_fall_of T.F_fall_of.kp T.b_fall_of .nil pass0 (pa_cons (pe_call (k := 8) G_walk (hr.mono (by decide)) rfl T.g_walk T.F_walk.kp T.b_walk .nil passE (pa_cons (pv 5) (pa_cons (pv 1) pa_nil))) (pa_cons (pv 2) pa_nil))))
     (pss_one (ps_if (pt_cmpR op_notN (pv 6) pe_non (nomark _)) (pss_one (ps_expr (peK_bm K rfl PySem.F.plainAttrs_list PySem.F.slot_list_append PySem.F.type_list_append mt_append (pv 3) (pa_cons (pe_tup (pa_cons (pe_ix (ixK_tup K rfl) (pv 6) pe_int (fun _ _ => rfl)) (pa_cons (pv 4) (pa_cons (pe_ix (ixK_tup K rfl) (pv 6) pe_int (fun _ _ => rfl)) (pa_cons (pe_ix (ixK_tup K rfl) (pv 6) pe_int (fun _ _ => rfl)) pa_nil))))) pa_nil)))) pss_nil))))
     (pss_one (ps_ret (pe_callB (call_sortedT0 K rfl) rfl T.no_sorted (by decide +kernel) (pa_cons (pv 3) pa_nil))))))), ?_⟩
   rcases h with ⟨ld, z, ev, xs, cs, rfl, hd, mk, gd, hc, hz, hzl, k⟩ | ⟨ld, v, ev, rfl, hkv, hbv, hT, kE⟩
   rotate_left
   · exact ⟨_, rfl, v, rfl, hkv, hbv, (fun e => by rw [hT] at e; cases e), fun _ H1 s1 => kE H1 s1⟩
   have hxl := mk.length
   refine ⟨_, rfl, .str z, rfl, .str z, (fun z' e => by cases e; omega), (fun _ H1 s1 => ?_), (fun e => by rw [text_t hz hzl] at e; cases e)⟩
   refine ⟨(by decide), fun l hl => ⟨_, rfl, _, rfl, ⟨_, SqL.of (same_new hl _ _ (s1 _ _ hd))⟩, ?_⟩⟩
   (have sA := same_new (o := HO.lst []) hl; have h2 := upd_same (H := H1) (a := l) (o := HO.lst []); generalize upd H1 l (HO.lst []) = A at sA h2 ⊢)
   have s2 := s1.trans sA
   have hl0 := s1.free hl
   refine for_enum (K := K) (a := ld) (xs := xs) (fun i σ H3 => Same H H3 ∧ ∃ (ps : List V) (v4 v5 v6 : Option V), σ = [some (.ref ld), some (.str z), some (.bl ev), some (.ref l), v4, v5, v6] ∧ H3 l = some (.lst ps) ∧ Fls H3 ps (fallsM ev z cs i) ∧ ps.length ≤ i) ⟨s2, [], _, _, _, rfl, h2, .nil, Nat.le_refl _⟩ (fun i σ H3 _ q => SqL.of (q.1 _ _ hd)) ?_ ?_
   · rintro i e t σ H3 hi ht ⟨s3, ps, v4, v5, v6, rfl, h3, fl, hpl⟩
     obtain ⟨x, hx, y, dy, rfl, hy⟩ := paired_get mk i e hi
     have hil : i < cs.length := (List.getElem?_eq_some_iff.mp hx).1
     refine ⟨t, _, rfl, SqT.of upd_same, rfl, _, _, rfl, _, _, rfl, rfl, ?_⟩
     (have s4 := same_new (o := HO.tup [V.int ↑i, V.ref y]) ht; have q4 := upd_same (H := H3) (a := t) (o := HO.tup [V.int ↑i, V.ref y]); generalize upd H3 t (HO.tup [V.int ↑i, V.ref y]) = H4 at s4 q4 ⊢)
     have gx := gd x (List.mem_of_getElem? hx)
     have hw := fun e => run_word (p := x.1) (q := x.2.1) (f := x.2.2.1) (b1 := x.2.2.2.a) (b2 := x.2.2.2.b) (b3 := x.2.2.2.c) (b4 := x.2.2.2.d) (w := Str.ofString "row") (u := Str.ofString "") (cs := z.cps.toList) (e := e)
     refine ⟨_, rfl, _, rfl, .inl ⟨y, dy, z, x.1, x.2.1, x.2.2.1, x.2.2.2.a, x.2.2.2.b, x.2.2.2.c, x.2.2.2.d, rfl, s4 _ _ (s3 _ _ hy), gx, hz, hzl, fun tw lk s H5 h5 hl5 hk hs s5 => ?_⟩⟩
     refine ⟨_, rfl, tw, lk, s, ev, _, _, _, _, rfl, h5, hk, hs, fun e he => (hw e he).1, fun v H6 hv s6 => ?_⟩
     have hv : fallV (fallT ev (runC x z)) H6 v := hv
     have es := falls_succ ev z cs i
     have s36 := (s4.trans s5).trans s6
     cases ef : fallT ev (runC x z) with
     | none =>
       rw [ef] at hv
       have hv : v = .non := hv
       subst hv
       have ea : fallAt ev z cs i = [] := by unfold fallAt; rw [hx]; show (match fallT ev (runC x z) with | some (a, b, w) => [(a, i, b, w)] | none => []) = []; rw [ef]
       rw [ea, List.append_nil] at es
       have fl6 := Fls.mono s36 fl
       rw [← es] at fl6
       dsimp only [gName]
       refine ⟨_, rfl, rfl, _, rfl, rdN rfl (⟨(s3.trans s36), _, _, _, _, rfl, (s36 _ _ h3), fl6, ?_⟩)⟩
       omega
     | some abw =>
       obtain ⟨fa, fb, fw⟩ := abw
       rw [ef] at hv
       obtain ⟨t6, rfl, ht6⟩ := hv
       have ea : fallAt ev z cs i = [(fa, i, fb, fw)] := by unfold fallAt; rw [hx]; show (match fallT ev (runC x z) with | some (a, b, w) => [(a, i, b, w)] | none => []) = _; rw [ef]
       rw [ea] at es
       dsimp only [gName]
       have hb : ps.length < sizeLine := Nat.lt_of_le_of_lt (show ps.length ≤ 100 by omega) (by decide)
       refine ⟨_, rfl, rfl, _, rfl, rdNn (fun z => nomatch z) (⟨_, rfl, .inl ⟨rfl, ⟨_, SqL.of (s36 _ _ h3)⟩⟩, _, rfl, _, _, _, _, rfl, rfl, SqT.of ht6, rfl, _, rfl, _, rfl, _, _, _, _, rfl, rfl, SqT.of ht6, rfl, _, rfl, _, _, _, _, rfl, rfl, SqT.of ht6, rfl, (by show (4 : Nat) ≤ sizeLine; decide), fun t7 ht7 => ⟨_, _, _, rfl, rfl, (same_new ht7 _ _ (s36 _ _ h3)), (by omega), (same_set hl0 (same_set ((s3.trans s36).free ht7) (s3.trans s36))), _, _, _, _, rfl, upd_same, ?_, ?_⟩⟩)⟩
       · have n7 : t7 ≠ l := fun q => by rw [q, s36 _ _ h3] at ht7; cases ht7
         rw [es]
         exact paired_app (Fls.put (same_new ht7 _ _ (s36 _ _ h3)) (Fls.mono (same_new ht7) (Fls.mono s36 fl))) (.cons ⟨t7, rfl, (upd_ne n7).trans upd_same⟩ .nil)
       · rw [List.length_append]; show ps.length + 1 ≤ _; omega
   · rintro σ H3 ⟨s3, ps, v4, v5, v6, rfl, h3, fl, hpl⟩
     rw [hxl] at fl hpl
     obtain ⟨gs, rfl, hfs, hgs⟩ := fls_list fl
     have hnd := falls_nodup ev z cs cs.length
     rw [← hfs] at hnd k
     refine ⟨_, rfl, l, gs.map fun g => (g.1, (g.2.1 : Int), (g.2.2.1 : Int)), rfl, SqL.of (by rw [List.map_map]; exact h3), by rw [List.length_map]; rw [List.length_map] at hpl; omega, fun t ht => ?_, by rw [List.map_map]; rw [List.map_map] at hnd; exact hnd, fun us hus hpw l' hl' => ?_⟩
     · obtain ⟨g, hg, rfl⟩ := List.mem_map.mp ht
       have hp := falls_place g.2 (by rw [← hfs]; exact List.mem_map.mpr ⟨g, hg, rfl⟩)
       exact ⟨Int.natCast_nonneg _, by show (g.2.2.1 : Int) < 1000000; omega, _, hgs g hg⟩
     · obtain ⟨gs', rfl, hp'⟩ := perm_of_map hus gs rfl
       refine k l' _ (gs'.map (·.2)) _ (s3.free hl') upd_same ?_ (hp'.map _) ?_ (s3.trans (same_new hl'))
       · refine Fls.mono (same_new hl') ?_
         rw [List.map_map]
         exact fls_of fun g hg => hgs g (hp'.mem_iff.mp hg)
       · rw [List.pairwise_map] at hpw ⊢
         exact hpw
def sp_takers (K : PySem.W.Frag) (C : Addr) (CN : Addr) : Sp := fun vs H Q E => (∃ (ld : Addr) (z : Str) (ev : Bool) (xs : List V) (cs : List Cho), vs = [.ref ld, .str z, .bl ev] ∧ H ld = some (.lst xs) ∧ Mks C H xs cs ∧ (∀ x ∈ cs, GdC x) ∧ cs.length ≤ 60 ∧ cellOk z ∧ z.length ≤ 2000 ∧ ∀ l gs H', Tks H H' l gs (takM ev z cs cs.length) → Same H H' → Q (.ref l) H') ∨ (∃ (ld : Addr) (v : V) (ev : Bool), vs = [.ref ld, v, .bl ev] ∧ Knd H v ∧ (∀ z, v = .str z → z.length ≤ 10000) ∧ isT v = false ∧ ∀ H', Same H H' → E (.ref CN) none H')
theorem ok_takers : FnOk P w K mg base (CXe P w) 9 f_takers fd_takers ["dialects", "text", "even"] (sp_takers K C_Dialect C_NoText) := by
 have G_check_text : FnOk P w K mg base (CXe P w) 4 f_check_text fd_check_text ["thing"] (sp_check_text K C_NoText) := ok_check_text T
 have G_fall_of : FnOk P w K mg base CX0 2 f_fall_of fd_fall_of ["walked", "even"] (sp_fall_of K) := ok_fall_of T
 have G_table_of : FnOk P w K mg base CX0 1 f_table_of fd_table_of ["text", "kinds"] (sp_table_of K) := ok_table_of T
 have G_walk : FnOk P w K mg base (CXe P w) 8 f_walk fd_walk ["dialect", "text"] (sp_walk K C_Dialect C_NoText) := ok_walk T
 refine T.F_takers.okE sc_takers (fun vs H Q E h => ?_) (fun cdv A outer s H vs Q E hr h => ?_)
 · rcases h with ⟨ld, z, ev, xs, cs, rfl, _⟩ | ⟨ld, v, ev, rfl, _⟩ <;> rfl
 · have hu := hu_of hr
   have hu0 := hr.units0
   refine ⟨_, (pss_cons (ps_expr (pe_call (k := 4) G_check_text (hr.mono (by decide)) rfl T.g_check_text T.F_check_text.kp T.b_check_text .nil passE (pa_cons (pv 1) pa_nil)))
     (pss_cons (ps_set (i := 3) sc_takers.nd rfl (by first | exact Or.inl rfl | exact Or.inr rfl) (pe_lst pa_nil))
     (pss_cons (ps_for PassesOwn.leaving rfl (piK_enum K rfl rfl T.no_enumerate (pa_cons (pv 0) pa_nil)) (pgK_tup K rfl 2 rfl (pgs_cons (pg_name (i := 4) sc_takers.nd rfl (by first | exact Or.inl rfl | exact Or.inr rfl)) (pgs_cons (pg_name (i := 5) sc_takers.nd rfl (by first | exact Or.inl rfl | exact Or.inr rfl)) pgs_nil)))
     (pss_cons (ps_set (i := 6) sc_takers.nd rfl (by first | exact Or.inl rfl | exact Or.inr rfl) (pe_call (k := 8) G_walk (hr.mono (by decide)) rfl T.g_walk T.F_walk.kp T.b_walk .nil passE (pa_cons (pv 5) (pa_cons (pv 1) pa_nil))))
     (pss_one (ps_if (pt_cmpR op_isN (pe_call (k := 2) G_fall_of (hr.mono (by decide)) rfl T.g_fall_of T.F_fall_of.kp T.b_fall_of .nil pass0 (pa_cons (pv 6) (pa_cons (pv 2) pa_nil))) pe_non (nomark _)) (pss_one (ps_expr (peK_bm K rfl PySem.F.plainAttrs_list PySem.F.slot_list_append PySem.F.type_list_append mt_append (pv 3) (pa_cons (pe_tup (pa_cons (pv 4) (pa_cons (pe_call (k := 1) G_table_of (hr.mono (by decide)) rfl T.g_table_of T.F_table_of.kp T.b_table_of .nil pass0 (pa_cons (pv 1) (pa_cons (pe_ix (ixK_tup K rfl) (pv 6) pe_int (fun _ _ => rfl)) pa_nil))) pa_nil))) pa_nil)))) pss_nil))))
     (pss_one (ps_ret (pv 3)))))), ?_⟩
   rcases h with ⟨ld, z, ev, xs, cs, rfl, hd, mk, gd, hc, hz, hzl, k⟩ | ⟨ld, v, ev, rfl, hkv, hbv, hT, kE⟩
   rotate_left
   · exact ⟨_, rfl, v, rfl, hkv, hbv, (fun e => by rw [hT] at e; cases e), fun _ H1 s1 => kE H1 s1⟩
   have hxl := mk.length
   refine ⟨_, rfl, .str z, rfl, .str z, (fun z' e => by cases e; omega), (fun _ H1 s1 => ?_), (fun e => by rw [text_t hz hzl] at e; cases e)⟩
   refine ⟨(by decide), fun l hl => ⟨_, rfl, _, rfl, ⟨_, SqL.of (same_new hl _ _ (s1 _ _ hd))⟩, ?_⟩⟩
   (have sA := same_new (o := HO.lst []) hl; have h2 := upd_same (H := H1) (a := l) (o := HO.lst []); generalize upd H1 l (HO.lst []) = A at sA h2 ⊢)
   have s2 := s1.trans sA
   have hl0 := s1.free hl
   refine for_enum (K := K) (a := ld) (xs := xs) (fun i σ H3 => Same H H3 ∧ ∃ (gs : List TkR) (v4 v5 v6 : Option V), σ = [some (.ref ld), some (.str z), some (.bl ev), some (.ref l), v4, v5, v6] ∧ Tks H H3 l gs (takM ev z cs i) ∧ gs.length ≤ i) ⟨s2, [], _, _, _, rfl, ⟨h2, rfl, (fun g hg => by cases hg), by simp, hl0⟩, Nat.le_refl _⟩ (fun i σ H3 _ q => SqL.of (q.1 _ _ hd)) ?_ ?_
   · rintro i e t σ H3 hi ht ⟨s3, gs, v4, v5, v6, rfl, tk, hgl⟩
     obtain ⟨x, hx, y, dy, rfl, hy⟩ := paired_get mk i e hi
     have hil : i < cs.length := (List.getElem?_eq_some_iff.mp hx).1
     refine ⟨t, _, rfl, SqT.of upd_same, rfl, _, _, rfl, _, _, rfl, rfl, ?_⟩
     (have s4 := same_new (o := HO.tup [V.int ↑i, V.ref y]) ht; have q4 := upd_same (H := H3) (a := t) (o := HO.tup [V.int ↑i, V.ref y]); generalize upd H3 t (HO.tup [V.int ↑i, V.ref y]) = H4 at s4 q4 ⊢)
     have gx := gd x (List.mem_of_getElem? hx)
     have hw := fun e => run_word (p := x.1) (q := x.2.1) (f := x.2.2.1) (b1 := x.2.2.2.a) (b2 := x.2.2.2.b) (b3 := x.2.2.2.c) (b4 := x.2.2.2.d) (w := Str.ofString "row") (u := Str.ofString "") (cs := z.cps.toList) (e := e)
     refine ⟨_, rfl, _, rfl, .inl ⟨y, dy, z, x.1, x.2.1, x.2.2.1, x.2.2.2.a, x.2.2.2.b, x.2.2.2.c, x.2.2.2.d, rfl, s4 _ _ (s3 _ _ hy), gx, hz, hzl, fun tw lk s H5 h5 hl5 hk hs s5 => ?_⟩⟩
     refine ⟨_, rfl, _, rfl, tw, lk, s, ev, _, _, _, _, rfl, h5, hk, hs, fun e he => (hw e he).1, fun v H6 hv s6 => ?_⟩
     have hv : fallV (fallT ev (runC x z)) H6 v := hv
     have etk := tak_succ ev z cs i
     have s36 := (s4.trans s5).trans s6
     have tk6 := tk.mono s36
     cases ef : fallT ev (runC x z) with
     | some abw =>
       obtain ⟨fa, fb, fw⟩ := abw
       rw [ef] at hv
       obtain ⟨t6, rfl, ht6⟩ := hv
       rw [(tak_some hx ef).1, List.append_nil] at etk
       rw [← etk] at tk6
       refine ⟨rfl, _, rfl, rdDn (fun z => nomatch z) ⟨s3.trans s36, gs, _, _, _, rfl, tk6, by omega⟩⟩
     | none =>
       rw [ef] at hv
       have hv : v = .non := hv
       subst hv
       rw [(tak_none hx ef).1] at etk
       refine ⟨rfl, _, rfl, rdD rfl ?_⟩
       have gml : (gs.map fun g => V.ref g.t).length = gs.length := List.length_map _
       refine ⟨_, rfl, .inl ⟨rfl, _, SqL.of tk6.ls⟩, _, rfl, _, rfl, _, rfl, tw, _, _, _, rfl, rfl, SqT.of (s6 _ _ h5), rfl, z, lk, (runC x z).1, rfl, s6 _ _ hk, hzl, fun lt es H7 hlt h7 n1 nd rws s7 => ?_⟩
       refine ⟨(by show 2 ≤ sizeLine; decide), fun u hu5 => ?_⟩
       have su := same_new (o := HO.tup [.int i, .ref lt]) hu5
       refine ⟨l, _, _, rfl, rfl, (s7.trans su) _ _ tk6.ls, Nat.lt_of_le_of_lt (show (gs.map fun g => V.ref g.t).length ≤ 100 by omega) (by decide), ?_⟩
       refine ⟨same_set hl0 ((s3.trans s36).trans (s7.trans su)), gs ++ [⟨i, u, lt, es, tabM z (runC x z).1⟩], _, _, _, rfl, ?_, by rw [List.length_append]; show gs.length + 1 ≤ _; omega⟩
       rw [etk]
       exact tk6.snoc (s3.trans s36) hlt s7 h7 n1 nd rws hu5
   · rintro σ H3 ⟨s3, gs, v4, v5, v6, rfl, tk, hgl⟩
     rw [hxl] at tk
     exact ⟨_, rfl, k l gs H3 tk s3⟩
def sp_last_of (K : PySem.W.Frag) : Sp := fun vs H Q _ => ∃ (l : Addr) (ps : List V) (fs : List F4), vs = [.ref l] ∧ H l = some (.lst ps) ∧ Fls H ps fs ∧ fs.length ≤ 100 ∧ (fs = [] → ∀ H', Same H H' → Q .non H') ∧ (∀ f, lastF fs = some f → ∀ t H', H' t = some (.tup [.int f.2.1, .int f.2.2.1, .int f.1, .str f.2.2.2]) → Same H H' → Q (.ref t) H')
theorem ok_last_of : FnOk P w K mg base CX0 1 f_last_of fd_last_of ["falls"] (sp_last_of K) := by
 refine T.F_last_of.ok sc_last_of (fun vs H Q E h => ?_) (fun cdv A outer s H vs Q E hr h => ?_)
 · obtain ⟨l, ps, fs, rfl, _⟩ := h; rfl
 · have hu := hu_of hr
   have hu0 := hr.units0
   obtain ⟨l, ps, fs, rfl, hl, fl, hf, k1, k2⟩ := h
   obtain ⟨gs, rfl, rfl, hgs⟩ := fls_list fl
   rw [List.length_map] at hf
   refine ⟨_, (pss_cons (ps_if (pt_cmpR (op_eqL K rfl hu0) (pv 0) (pe_lst pa_nil) (nomark _)) (pss_one (ps_ret pe_non)) pss_nil)
     (pss_cons (ps_set (i := 1) sc_last_of.nd rfl (by first | exact Or.inl rfl | exact Or.inr rfl) (pe_ix (ixK_list K rfl) (pe_comp rfl (show CompScope ["falls", "farthest"] (defScope s_last_of) ["fall", "falls"] 1 [0] _ from ⟨rfl, by decide +kernel, by decide +kernel, by decide +kernel, by decide +kernel, rfl, rfl, by decide +kernel⟩) (piK_list K rfl (pv 0)) (fun _ _ _ _ => (pg_name (i := 0) (show (["fall", "falls"] : List Str).Nodup by decide +kernel) rfl (by first | exact Or.inl rfl | exact Or.inr rfl))) (fun _ _ _ _ => (pif_one (pt_cmpR op_eq (pe_ix (ixK_tup K rfl) (pv 0) pe_int (fun _ _ => rfl)) (pe_ix (ixK_tup K rfl) (pe_ix (ixK_list K rfl) (pv 1) (pe_un un_neg pe_int) (fun _ _ => rfl)) pe_int (fun _ _ => rfl)) (nomark _)))) (fun _ _ _ _ => (pv 0))) pe_int (fun _ _ => rfl)))
     (pss_one (ps_ret (pe_tup (pa_cons (pe_ix (ixK_tup K rfl) (pv 1) pe_int (fun _ _ => rfl)) (pa_cons (pe_ix (ixK_tup K rfl) (pv 1) pe_int (fun _ _ => rfl)) (pa_cons (pe_ix (ixK_tup K rfl) (pv 1) pe_int (fun _ _ => rfl)) (pa_cons (pe_ix (ixK_tup K rfl) (pv 1) pe_int (fun _ _ => rfl)) pa_nil))))))))), ?_⟩
   cases hgl : gs.getLast? with
   | none =>
     have e0 : gs = [] := List.getLast?_eq_none_iff.mp hgl
     subst e0
     refine ⟨_, rfl, (by decide), fun p hp => ⟨_, _, _, rfl, rfl, SqL.of (same_new hp _ _ hl), SqL.of upd_same, _, rfl, iteT (k1 rfl _ (same_set hp (Same.refl _)))⟩⟩
   | some zl =>
     have hne : gs ≠ [] := fun e => by rw [e] at hgl; cases hgl
     have hzm : zl ∈ gs := List.mem_of_getLast? hgl
     have emp : (gs.map fun g => V.ref g.1).isEmpty = false := by cases gs with | nil => exact absurd rfl hne | cons _ _ => rfl
     have eat : atI (gs.map fun g => V.ref g.1) (-1) = some (.ref zl.1) := by
       have hlen : 0 < gs.length := List.length_pos_iff.mpr hne
       have e1 : ixN (gs.map fun g => V.ref g.1).length (-1) = some (gs.length - 1) := by
         rw [List.length_map]
         show (if (0 : Int) ≤ -1 then _ else if -((gs.length : Nat) : Int) ≤ -1 then some (-1 + ((gs.length : Nat) : Int)).toNat else none) = _
         rw [if_neg (by decide), if_pos (by omega)]
         congr 1
         omega
       unfold atI
       rw [e1]
       show (gs.map fun g => V.ref g.1)[gs.length - 1]? = _
       rw [List.getElem?_map, ← List.getLast?_eq_getElem?, hgl]; rfl
     have hz1 := hgs zl hzm
     refine ⟨_, rfl, (by decide), fun p hp => ⟨_, _, _, rfl, rfl, SqL.of (same_new hp _ _ hl), SqL.of upd_same, _, rfl, rdF emp (⟨_, rfl, _, rfl, ⟨_, SqL.of (same_new hp _ _ hl)⟩, fun D hD => ?_⟩)⟩⟩
     (have s1' := same_new (o := HO.lst []) hp; have q1 := upd_same (H := H) (a := p) (o := HO.lst []); generalize upd H p (HO.lst []) = H1 at s1' q1 hD ⊢)
     have s1 := s1'
     refine comp_list (K := K) (a := l) (xs := gs.map fun g => V.ref g.1) (fun i ys τ J => (∃ v, τ = [v, some (.ref l)]) ∧ Same H1 J ∧ J D = some (.lst ys) ∧ ys = (lastG (gs.take i) zl.2.1).map fun g => V.ref g.1) ⟨⟨_, rfl⟩, same_new hD, upd_same, rfl⟩ (fun i ys τ J _ q => ⟨SqL.of (q.2.1 _ _ (s1 _ _ hl)), q.2.2.1⟩) ?_ ?_
     · rintro i y ys τ J hi ⟨⟨v, rfl⟩, sJ, hl3, rfl⟩
       rw [List.getElem?_map] at hi
       obtain ⟨g, hi2, rfl⟩ := Option.map_eq_some_iff.mp hi
       have hg := hgs g (List.mem_of_getElem? hi2)
       have hts : gs.take (i + 1) = gs.take i ++ [g] := by rw [List.take_add_one, hi2]; rfl
       have hlJ := sJ _ _ (s1 _ _ hl)
       dsimp only [gName]
       refine ⟨_, rfl, _, _, _, _, rfl, rfl, SqT.of (sJ _ _ (s1 _ _ hg)), rfl, _, rfl, _, rfl, _, _, _, _, rfl, rfl, SqL.of hlJ, eat, _, _, _, _, rfl, rfl, SqT.of (sJ _ _ (s1 _ _ hz1)), rfl, rfl, _, rfl, ?_⟩
       refine rd2i (fun e => ?_) (fun e => ?_)
       · have ef : lastG (gs.take (i + 1)) zl.2.1 = lastG (gs.take i) zl.2.1 ++ [g] := by
           rw [hts]; unfold lastG; rw [List.filter_append, List.filter_cons_of_pos (p := fun g : Addr × F4 => decide (g.2.1 = zl.2.1)) (decide_eq_true (by omega))]; rfl
         refine ⟨_, rfl, hl3, ?_, ⟨_, rfl⟩, (same_set hD sJ), upd_same, ?_⟩
         · rw [List.length_map]
           exact Nat.lt_of_le_of_lt (Nat.le_trans (List.length_filter_le _ _) (Nat.le_trans (List.length_take_le' _ _) hf)) (by decide)
         · rw [ef, List.map_append]; rfl
       · have ef : lastG (gs.take (i + 1)) zl.2.1 = lastG (gs.take i) zl.2.1 := by
           rw [hts]; unfold lastG; rw [List.filter_append, List.filter_cons_of_neg (p := fun g : Addr × F4 => decide (g.2.1 = zl.2.1)) (fun q => e (by have := of_decide_eq_true q; omega))]; exact List.append_nil _
         refine ⟨⟨_, rfl⟩, sJ, hl3, ?_⟩
         rw [ef]
     · rintro ys τ J ⟨⟨v, rfl⟩, sJ, hl3, rfl⟩
       rw [List.length_map, List.take_of_length_le (Nat.le_refl _)] at hl3
       cases eg : lastG gs zl.2.1 with
       | nil =>
         have : zl ∈ lastG gs zl.2.1 := List.mem_filter.mpr ⟨hzm, decide_eq_true rfl⟩
         rw [eg] at this; cases this
       | cons g r =>
         rw [eg] at hl3
         have hgm : g ∈ gs := (List.mem_filter.mp (show g ∈ lastG gs zl.2.1 by rw [eg]; exact List.mem_cons_self ..)).1
         have hg := hgs g hgm
         have hgJ := sJ _ _ (s1 _ _ hg)
         have hfi : gs.find? (fun g => decide (g.2.1 = zl.2.1)) = some g := by
           rw [← List.head?_filter]
           show (lastG gs zl.2.1).head? = _
           rw [eg]; rfl
         have hlf : lastF (gs.map (·.2)) = some g.2 := by
           unfold lastF
           rw [List.getLast?_map, hgl]
           show (gs.map (·.2)).find? (fun f => decide (f.1 = zl.2.1)) = _
           rw [List.find?_map]
           show Option.map _ (gs.find? fun g => decide (g.2.1 = zl.2.1)) = _
           rw [hfi]; rfl
         refine ⟨_, _, _, _, rfl, rfl, SqL.of hl3, (show atI _ ((0 : Nat) : Int) = _ from atI_nat rfl), _, rfl, _, _, _, _, rfl, rfl, SqT.of hgJ, rfl, _, rfl, _, _, _, _, rfl, rfl, SqT.of hgJ, rfl, _, rfl, _, _, _, _, rfl, rfl, SqT.of hgJ, rfl, _, rfl, _, _, _, _, rfl, rfl, SqT.of hgJ, rfl, (by show (4 : Nat) ≤ sizeLine; decide), fun t5 ht5 => k2 _ hlf _ _ upd_same (same_set ((s1.trans sJ).free ht5) (s1.trans sJ))⟩
def sp_finding (K : PySem.W.Frag) (C : Addr) (CN : Addr) : Sp := fun vs H Q E => (∃ (ld : Addr) (z : Str) (ev : Bool) (xs : List V) (cs : List Cho), vs = [.ref ld, .str z, .bl ev] ∧ H ld = some (.lst xs) ∧ Mks C H xs cs ∧ (∀ x ∈ cs, GdC x) ∧ cs.length ≤ 60 ∧ cellOk z ∧ z.length ≤ 2000 ∧ ∀ t w v H', H' t = some (.tup [w, v]) → FndD ev z cs H H' w v → Same H H' → Q (.ref t) H') ∨ (∃ (ld : Addr) (v : V) (ev : Bool), vs = [.ref ld, v, .bl ev] ∧ Knd H v ∧ (∀ z, v = .str z → z.length ≤ 10000) ∧ isT v = false ∧ ∀ H', Same H H' → E (.ref CN) none H')
theorem ok_finding : FnOk P w K mg base (CXe P w) 10 f_finding fd_finding ["dialects", "text", "even"] (sp_finding K C_Dialect C_NoText) := by
 have G_fallen : FnOk P w K mg base (CXe P w) 9 f_fallen fd_fallen ["dialects", "text", "even"] (sp_fallen K C_Dialect C_NoText) := ok_fallen T
 have G_last_of : FnOk P w K mg base CX0 1 f_last_of fd_last_of ["falls"] (sp_last_of K) := ok_last_of T
 have G_takers : FnOk P w K mg base (CXe P w) 9 f_takers fd_takers ["dialects", "text", "even"] (sp_takers K C_Dialect C_NoText) := ok_takers T
 refine T.F_finding.okE sc_finding (fun vs H Q E h => ?_) (fun cdv A outer s H vs Q E hr h => ?_)
 · rcases h with ⟨ld, z, ev, xs, cs, rfl, _⟩ | ⟨ld, v, ev, rfl, _⟩ <;> rfl
 · have hu := hu_of hr
   have hu0 := hr.units0
   refine ⟨_, (pss_cons (ps_set (i := 3) sc_finding.nd rfl (by first | exact Or.inl rfl | exact Or.inr rfl) (pe_call (k := 9) G_takers (hr.mono (by decide)) rfl T.g_takers T.F_takers.kp T.b_takers .nil passE (pa_cons (pv 0) (pa_cons (pv 1) (pa_cons (pv 2) pa_nil)))))
     (pss_cons (ps_if (pt_cmpR (opK_neL K rfl hu0) (pv 3) (pe_lst pa_nil) (nomark _)) (pss_one (ps_ret (pe_tup (pa_cons pe_str (pa_cons (pv 3) pa_nil))))) pss_nil)
     (pss_one (ps_ret (pe_tup (pa_cons pe_str (pa_cons (pe_call (k := 1) G_last_of (hr.mono (by decide)) rfl T.g_last_of T.F_last_of.kp T.b_last_of .nil pass0 (pa_cons (pe_call (k := 9) G_fallen (hr.mono (by decide)) rfl T.g_fallen T.F_fallen.kp T.b_fallen .nil passE (pa_cons (pv 0) (pa_cons (pv 1) (pa_cons (pv 2) pa_nil)))) pa_nil)) pa_nil))))))), ?_⟩
   rcases h with ⟨ld, z, ev, xs, cs, rfl, hd, mk, gd, hc, hz, hzl, k⟩ | ⟨ld, v, ev, rfl, hkv, hbv, hT, kE⟩
   rotate_left
   · exact ⟨_, rfl, _, rfl, _, rfl, .inr ⟨ld, v, ev, rfl, hkv, hbv, hT, kE⟩⟩
   refine ⟨_, rfl, _, rfl, _, rfl, .inl ⟨ld, z, ev, xs, cs, rfl, hd, mk, gd, hc, hz, hzl, fun l gs H1 tk s1 => ?_⟩⟩
   refine ⟨_, rfl, by decide, fun e he => ?_⟩
   have se := same_new (o := HO.lst []) he
   have tke := tk.mono se
   refine ⟨l, e, _, rfl, rfl, SqL.of tke.ls, SqL.of upd_same, ?_⟩
   have s2 := s1.trans se
   generalize upd H1 e (.lst []) = H2 at s2 tke ⊢
   cases hgs : gs.map (fun g => V.ref g.t) with
   | nil =>
     have he := tks_empty tk hgs
     refine ⟨_, rfl, iteF ?_⟩
     refine ⟨_, rfl, _, rfl, _, rfl, .inl ⟨ld, z, ev, xs, cs, rfl, s2 _ _ hd, Mks.mono s2 mk, gd, hc, hz, hzl, fun lf ps fs H3 _ h3 fl hp hpw s3 => ?_⟩⟩
     have hfl : fs.length ≤ 100 := by rw [hp.length_eq]; have := falls_len (ev := ev) (z := z) (cs := cs) cs.length; omega
     refine ⟨lf, ps, fs, rfl, h3, fl, hfl, fun e4 H4 s4 => ⟨(by show 2 ≤ sizeLine; decide), fun t ht => ?_⟩, fun f hf u H4 hu s4 => ⟨(by show 2 ≤ sizeLine; decide), fun t ht => ?_⟩⟩
     · exact k t _ _ _ upd_same (.inr ⟨he, rfl, fs, lastV_n e4, hp, hpw⟩) (((s2.trans s3).trans s4).trans (same_new ht))
     · exact k t _ _ _ upd_same (.inr ⟨he, rfl, fs, lastV_s hf (same_new ht _ _ hu), hp, hpw⟩) (((s2.trans s3).trans s4).trans (same_new ht))
   | cons g0 gr =>
     have hne : takM ev z cs cs.length ≠ [] := fun q => by
       have := tk.eq
       rw [q] at this
       rw [List.map_eq_nil_iff.mp this] at hgs
       cases hgs
     refine ⟨_, rfl, iteT ?_⟩
     refine ⟨_, rfl, (by show 2 ≤ sizeLine; decide), fun t ht => ?_⟩
     exact k t _ _ _ upd_same (.inl ⟨hne, rfl, l, gs, rfl, tke.mono (same_new ht)⟩) (s2.trans (same_new ht))
def sp_takes_all (K : PySem.W.Frag) (C : Addr) : Sp := fun vs H Q _ => ∃ (y dy lt : Addr) (ev : Bool) (zs : List Str) (x : Cho), vs = [.ref y, .ref lt, .bl ev] ∧ H y = some (.ins C dy (dflC x)) ∧ GdC x ∧ H lt = some (.lst (zs.map V.str)) ∧ (∀ z ∈ zs, cellOk z ∧ z.length ≤ 2000) ∧ ∀ H', Same H H' → Q (.bl (tkC ev zs x)) H'
theorem ok_takes_all : FnOk P w K mg base CX0 9 f_takes_all fd_takes_all ["dialect", "texts", "even"] (sp_takes_all K C_Dialect) := by
 have G_fall_of : FnOk P w K mg base CX0 2 f_fall_of fd_fall_of ["walked", "even"] (sp_fall_of K) := ok_fall_of T
 have G_walk : FnOk P w K mg base (CXe P w) 8 f_walk fd_walk ["dialect", "text"] (sp_walk K C_Dialect C_NoText) := ok_walk T
 refine T.F_takes_all.ok sc_takes_all (fun vs H Q E h => ?_) (fun cdv A outer s H vs Q E hr h => ?_)
 · obtain ⟨y, dy, lt, ev, zs, x, rfl, _⟩ := h; rfl
 · have hu := hu_of hr
   have hu0 := hr.units0
   obtain ⟨y, dy, lt, ev, zs, x, rfl, hy, g, hl, hz, k⟩ := h
   refine ⟨_, (pss_cons (ps_for PassesOwn.never rfl (piK_list K rfl (pv 1)) (pg_name (i := 3) sc_takes_all.nd rfl (by first | exact Or.inl rfl | exact Or.inr rfl))
     (pss_one (ps_if (pt_cmpR op_notN (pe_call (k := 2) G_fall_of (hr.mono (by decide)) rfl T.g_fall_of T.F_fall_of.kp T.b_fall_of .nil pass0 (pa_cons (pe_call (k := 8) G_walk (hr.mono (by decide)) rfl T.g_walk T.F_walk.kp T.b_walk .nil passN (pa_cons (pv 0) (pa_cons (pv 3) pa_nil))) (pa_cons (pv 2) pa_nil))) pe_non (nomark _)) (pss_one (ps_ret pe_bl)) pss_nil)))
     (pss_one (ps_ret pe_bl))), ?_⟩
   refine ⟨_, rfl, lt, rfl, ⟨_, SqL.of hl⟩, ?_⟩
   refine for_list (K := K) (a := lt) (xs := zs.map V.str) (fun i σ H2 => Same H H2 ∧ ∃ v : Option V, σ = [some (.ref y), some (.ref lt), some (.bl ev), v] ∧ ((zs.take i).all fun z => fallN ev (runC x z)) = true) ⟨Same.refl _, _, rfl, rfl⟩ (fun i σ H2 _ q => SqL.of (q.1 _ _ hl)) ?_ ?_
   · rintro i e σ H2 hi ⟨s2, v, rfl, hall⟩
     obtain ⟨z, hzi, rfl⟩ := strV_at hi
     have hzm := List.mem_of_getElem? hzi
     obtain ⟨z1, z2⟩ := hz z hzm
     refine ⟨_, rfl, _, rfl, .inl ⟨y, dy, z, x.1, x.2.1, x.2.2.1, x.2.2.2.a, x.2.2.2.b, x.2.2.2.c, x.2.2.2.d, rfl, s2 _ _ hy, g, z1, z2, fun tw lk s H1 h1 hl0 hk hs s1 => ?_⟩⟩
     have hw := fun e => run_word (p := x.1) (q := x.2.1) (f := x.2.2.1) (b1 := x.2.2.2.a) (b2 := x.2.2.2.b) (b3 := x.2.2.2.c) (b4 := x.2.2.2.d) (w := Str.ofString "row") (u := Str.ofString "") (cs := z.cps.toList) (e := e)
     have s12 := s2.trans s1
     refine ⟨_, rfl, tw, lk, s, ev, _, _, _, _, rfl, h1, hk, hs, fun e he => (hw e he).1, fun v H3 hv s3 => ?_⟩
     have hv : fallV (fallT ev (runC x z)) H3 v := hv
     have hN := fallN_T ev (runC x z)
     cases ef : fallT ev (runC x z) with
     | none =>
       rw [ef] at hv hN
       have hv : v = .non := hv
       subst hv
       refine ⟨rfl, _, rfl, iteNE (decide_eq_true rfl) ⟨s12.trans s3, _, rfl, ?_⟩⟩
       rw [take_snocG hzi, List.all_append, hall, Bool.true_and, List.all_cons, List.all_nil, Bool.and_true]
       exact hN
     | some abw =>
       obtain ⟨fa, fb, fw⟩ := abw
       rw [ef] at hv hN
       obtain ⟨t6, rfl, ht6⟩ := hv
       refine ⟨rfl, _, rfl, iteNf (decide_eq_false (by intro z; cases z)) ?_⟩
       have e : tkC ev zs x = false := by
         cases q : tkC ev zs x with
         | false => rfl
         | true =>
           have q2 : fallN ev (runC x z) = true := List.all_eq_true.mp q z hzm
           rw [hN] at q2; cases q2
       rw [e] at k
       exact k H3 (s12.trans s3)
   · rintro σ H2 ⟨s2, v, rfl, hall⟩
     rw [List.take_of_length_le (by rw [List.length_map]; exact Nat.le_refl _)] at hall
     have e : tkC ev zs x = true := hall
     rw [e] at k
     exact k H2 s2
def sp_found_all (K : PySem.W.Frag) (C : Addr) (CN : Addr) : Sp := fun vs H Q E => (∃ (ld lt : Addr) (ev : Bool) (zs : List Str) (xs : List V) (cs : List Cho), vs = [.ref ld, .ref lt, .bl ev] ∧ H ld = some (.lst xs) ∧ Mks C H xs cs ∧ (∀ x ∈ cs, GdC x) ∧ cs.length ≤ 100 ∧ H lt = some (.lst (zs.map V.str)) ∧ (∀ z ∈ zs, cellOk z ∧ z.length ≤ 2000) ∧ ∀ l H', H l = none → H' l = some (.lst (plcs ev zs cs cs.length)) → Same H H' → Q (.ref l) H') ∨ (∃ (ld lt : Addr) (ev : Bool) (ws : List V), vs = [.ref ld, .ref lt, .bl ev] ∧ H lt = some (.lst ws) ∧ (∀ v ∈ ws, Knd H v ∧ (∀ z, v = .str z → z.length ≤ 10000)) ∧ (∃ v ∈ ws, isT v = false) ∧ ∀ H', Same H H' → E (.ref CN) none H')
theorem ok_found_all : FnOk P w K mg base (CXe P w) 10 f_found_all fd_found_all ["dialects", "texts", "even"] (sp_found_all K C_Dialect C_NoText) := by
 have G_check_text : FnOk P w K mg base (CXe P w) 4 f_check_text fd_check_text ["thing"] (sp_check_text K C_NoText) := ok_check_text T
 have G_takes_all : FnOk P w K mg base CX0 9 f_takes_all fd_takes_all ["dialect", "texts", "even"] (sp_takes_all K C_Dialect) := ok_takes_all T
 refine T.F_found_all.okE sc_found_all (fun vs H Q E h => ?_) (fun cdv A outer s H vs Q E hr h => ?_)
 · rcases h with ⟨ld, lt, ev, zs, xs, cs, rfl, _⟩ | ⟨ld, lt, ev, ws, rfl, _⟩ <;> rfl
 · have hu := hu_of hr
   have hu0 := hr.units0
   refine ⟨_, (pss_cons (ps_for PassesOwn.leaving rfl (piK_list K rfl (pv 1)) (pg_name (i := 3) sc_found_all.nd rfl (by first | exact Or.inl rfl | exact Or.inr rfl))
     (pss_one (ps_expr (pe_call (k := 4) G_check_text (hr.mono (by decide)) rfl T.g_check_text T.F_check_text.kp T.b_check_text .nil passE (pa_cons (pv 3) pa_nil)))))
     (pss_one (ps_ret (pe_comp rfl (show CompScope ["dialects", "texts", "even", "text"] (defScope s_found_all) ["place", "dialect", "texts", "even"] 2 [1, 2] _ from ⟨rfl, by decide +kernel, by decide +kernel, by decide +kernel, by decide +kernel, rfl, rfl, by decide +kernel⟩) (piK_enum K rfl rfl T.no_enumerate (pa_cons (pv 0) pa_nil)) (fun _ _ _ _ => (pgK_tup K rfl 2 rfl (pgs_cons (pg_name (i := 0) (show (["place", "dialect", "texts", "even"] : List Str).Nodup by decide +kernel) rfl (by first | exact Or.inl rfl | exact Or.inr rfl)) (pgs_cons (pg_name (i := 1) (show (["place", "dialect", "texts", "even"] : List Str).Nodup by decide +kernel) rfl (by first | exact Or.inl rfl | exact Or.inr rfl)) pgs_nil)))) (fun _ _ _ _ => (pif_one (pt_val (pe_call (k := 9) G_takes_all (hr.mono (by decide)) rfl T.g_takes_all T.F_takes_all.kp T.b_takes_all .nil pass0 (pa_cons (pv 1) (pa_cons (pv 2) (pa_cons (pv 3) pa_nil))))))) (fun _ _ _ _ => (pv 0)))))), ?_⟩
   rcases h with ⟨ld, lt, ev, zs, xs, cs, rfl, hd, mk, gd, hc, hl, hz, k⟩ | ⟨ld, lt, ev, ws, rfl, hlw, hkw, hbad, kE⟩
   rotate_left
   · refine ⟨_, rfl, lt, rfl, ⟨_, SqL.of hlw⟩, ?_⟩
     refine for_list (K := K) (a := lt) (xs := ws) (fun i σ H2 => Same H H2 ∧ (∀ v ∈ ws.take i, isT v = true) ∧ ∃ v : Option V, σ = [some (.ref ld), some (.ref lt), some (.bl ev), v]) ⟨Same.refl _, (fun v hv => nomatch hv), _, rfl⟩ (fun i σ H2 _ q => SqL.of (q.1 _ _ hlw)) ?_ ?_
     · rintro i e σ H2 hi ⟨s2, hall, v, rfl⟩
       obtain ⟨ke, be⟩ := hkw e (List.mem_of_getElem? hi)
       refine ⟨_, rfl, e, rfl, ke.mono s2, be, (fun hT H3 s3 => ⟨s2.trans s3, fun w hw => ?_, _, rfl⟩), fun _ H3 s3 => kE H3 (s2.trans s3)⟩
       rw [take_snocG hi] at hw
       rcases List.mem_append.mp hw with q | q
       · exact hall w q
       · rw [List.mem_singleton.mp q]; exact hT
     · rintro σ H2 ⟨s2, hall, v, rfl⟩
       obtain ⟨w, hw, hT⟩ := hbad
       rw [List.take_of_length_le (Nat.le_refl _)] at hall
       rw [hall w hw] at hT; cases hT
   have hxl := mk.length
   refine ⟨_, rfl, lt, rfl, ⟨_, SqL.of hl⟩, ?_⟩
   refine for_list (K := K) (a := lt) (xs := zs.map V.str) (fun i σ H2 => Same H H2 ∧ ∃ v : Option V, σ = [some (.ref ld), some (.ref lt), some (.bl ev), v]) ⟨Same.refl _, _, rfl⟩ (fun i σ H2 _ q => SqL.of (q.1 _ _ hl)) ?_ ?_
   · rintro i e σ H2 hi ⟨s2, v, rfl⟩
     obtain ⟨z, hzi, rfl⟩ := strV_at hi
     obtain ⟨z1, z2⟩ := hz z (List.mem_of_getElem? hzi)
     exact ⟨_, rfl, .str z, rfl, .str z, (fun z' e => by cases e; omega), (fun _ H3 s3 => ⟨s2.trans s3, _, rfl⟩), (fun e => by rw [text_t z1 z2] at e; cases e)⟩
   rintro σ H2 ⟨s2, v, rfl⟩
   have hd2 := s2 _ _ hd
   refine ⟨_, rfl, ld, rfl, ⟨_, SqL.of hd2⟩, fun D hD => ?_⟩
   refine comp_enum (K := K) (a := ld) (xs := xs) (fun i ys τ H3 => (∃ v1 v2 : Option V, τ = [v1, v2, some (.ref lt), some (.bl ev)]) ∧ Same H2 H3 ∧ H3 D = some (.lst ys) ∧ ys = plcs ev zs cs i) ⟨⟨_, _, rfl⟩, same_new hD, upd_same, rfl⟩ (fun i ys τ H3 _ p => ⟨SqL.of (p.2.1 _ _ hd2), p.2.2.1⟩) ?_ ?_
   · rintro i e t ys τ H3 hi ht ⟨⟨v1, v2, rfl⟩, s3, hD3, rfl⟩
     obtain ⟨x, hx, y, dy, rfl, hy⟩ := paired_get mk i e hi
     have hil : i < cs.length := (List.getElem?_eq_some_iff.mp hx).1
     have st := same_new (o := HO.tup [.int i, .ref y]) ht
     refine ⟨t, _, rfl, SqT.of upd_same, rfl, _, _, rfl, _, _, rfl, rfl, ?_⟩
     have s4 := s3.trans st
     have hD4 := st _ _ hD3
     generalize upd H3 t (.tup [.int i, .ref y]) = H4 at s4 hD4 ⊢
     have s24 := s2.trans s4
     refine ⟨_, rfl, _, rfl, _, rfl, y, dy, lt, ev, zs, x, rfl, s24 _ _ hy, gd x (List.mem_of_getElem? hx), s24 _ _ hl, hz, fun H5 s5 => ⟨_, rfl, ite2 (fun h1 => ?_) (fun h1 => ?_)⟩⟩
     · refine ⟨_, rfl, s5 _ _ hD4, Nat.lt_of_le_of_lt (Nat.le_trans plcs_len (show i ≤ 100 by omega)) (by decide), ⟨_, _, rfl⟩, same_set hD (s4.trans s5), upd_same, ?_⟩
       rw [plcs_succ hx, if_pos h1]
     · refine ⟨⟨_, _, rfl⟩, s4.trans s5, s5 _ _ hD4, ?_⟩
       rw [plcs_succ hx, if_neg h1]
   · rintro ys τ H3 ⟨⟨v1, v2, rfl⟩, s3, hD3, rfl⟩
     rw [hxl] at hD3
     exact k D H3 (s2.free hD) hD3 (s2.trans s3)
def sp_common (K : PySem.W.Frag) (C CN : Addr) : Sp := fun vs H Q E => ∃ (ld : Addr) (v : V) (ev : Bool), vs = [.ref ld, v, .bl ev] ∧ Knd H v ∧ (∀ z, v = .str z → z.length ≤ 10000) ∧ isT v = false ∧ ∀ H', Same H H' → E (.ref CN) none H'
theorem ok_common : FnOk P w K mg base (CXe P w) 10 f_common fd_common ["dialects", "text", "even"] (sp_common K C_Dialect C_NoText) := by
 have G_takers : FnOk P w K mg base (CXe P w) 9 f_takers fd_takers ["dialects", "text", "even"] (sp_takers K C_Dialect C_NoText) := ok_takers T
 refine T.F_common.okE sc_common (fun vs H Q E h => ?_) (fun cdv A outer s H vs Q E hr h => ?_)
 · obtain ⟨ld, v, ev, rfl, _⟩ := h; rfl
 · have hu := hu_of hr
   have hu0 := hr.units0
   obtain ⟨ld, v, ev, rfl, hkv, hbv, hT, kE⟩ := h
   have hu64 := hr.units
   refine ⟨_, (pss_cons (ps_set (i := 3) sc_common.nd rfl (by first | exact Or.inl rfl | exact Or.inr rfl) (pe_comp rfl (show CompScope ["dialects", "text", "even", "tables"] (defScope s_common) ["taken"] 1 [] _ from ⟨rfl, by decide +kernel, by decide +kernel, by decide +kernel, by decide +kernel, rfl, rfl, by decide +kernel⟩) (piK_list K rfl (pe_call (k := 9) G_takers (hr.mono (by decide)) rfl T.g_takers T.F_takers.kp T.b_takers .nil passE (pa_cons (pv 0) (pa_cons (pv 1) (pa_cons (pv 2) pa_nil))))) (fun _ _ _ _ => (pg_name (i := 0) (show (["taken"] : List Str).Nodup by decide +kernel) rfl (by first | exact Or.inl rfl | exact Or.inr rfl))) (fun _ _ _ _ => pif_nil) (fun _ _ _ _ => (pe_ix (ixK_tup K rfl) (pv 0) pe_int (fun _ _ => rfl)))))
     (pss_cons (ps_if (PW.pt (pw_or (pt_cmpR (op_eqL K rfl hu0) (pv 3) (pe_lst pa_nil) (nomark _)) (pw_or1 (pt_val (pe_callB (callK_any K rfl rfl) rfl T.no_any (by decide +kernel) (pa_cons (pe_comp rfl (show CompScope ["dialects", "text", "even", "tables"] (defScope s_common) ["table", "tables"] 1 [3] _ from ⟨rfl, by decide +kernel, by decide +kernel, by decide +kernel, by decide +kernel, rfl, rfl, by decide +kernel⟩) (piK_list K rfl (pv 3)) (fun _ _ _ _ => (pg_name (i := 0) (show (["table", "tables"] : List Str).Nodup by decide +kernel) rfl (by first | exact Or.inl rfl | exact Or.inr rfl))) (fun _ _ _ _ => pif_nil) (fun _ _ _ _ => (pe_cmpR (op_neC K rfl hu64) (pv 0) (pe_ix (ixK_list K rfl) (pv 1) pe_int (fun _ _ => rfl)) (nomark _)))) pa_nil)))))) (pss_one (ps_ret pe_non)) pss_nil)
     (pss_one (ps_ret (pe_ix (ixK_list K rfl) (pv 3) pe_int (fun _ _ => rfl)))))), ?_⟩
   exact ⟨_, rfl, _, rfl, _, rfl, .inr ⟨ld, v, ev, rfl, hkv, hbv, hT, kE⟩⟩
def sp__law_cell_at (K : PySem.W.Frag) : Sp := fun vs H Q _ => ∃ (a : Addr) (ns : List Int) (i : Int), vs = [.ref a, .int i] ∧ SqL K H a (ns.map V.int) ∧ 0 ≤ i ∧ ∀ r : Int, Q (.int r) H
theorem ok__law_cell_at : FnOk P w K mg base CX0 1 f__law_cell_at fd__law_cell_at ["_law_script", "_law_k"] (sp__law_cell_at K) := by
 refine T.F__law_cell_at.ok sc__law_cell_at (fun vs H Q E h => ?_) (fun cdv A outer s H vs Q E hr h => ?_)
 · obtain ⟨a, ns, i, rfl, _⟩ := h; rfl
 · have hu := hu_of hr
   have hu0 := hr.units0
   obtain ⟨a, ns, i, rfl, hS, hi, k⟩ := h
   refine ⟨_, (pss_cons (ps_if (pt_cmpR op_lt (pv 1) (pe_callB (callK_len_seq K rfl) rfl T.no_len (by decide +kernel) (pa_cons (pv 0) pa_nil)) (nomark _)) (pss_one (ps_ret (pe_ix (ixK_list K rfl) (pv 0) (pv 1) (fun _ _ => rfl)))) pss_nil)
     (pss_one (ps_ret pe_int))), ?_⟩
   refine ⟨_, rfl, _, rfl, a, _, rfl, .inl hS, _, _, rfl, rfl, _, rfl, ?_⟩
   refine ite2 (fun hc => ?_) (fun _ => ?_)
   · have hlt := of_decide_eq_true hc
     obtain ⟨v, ev, hv⟩ := at_int hi hlt
     obtain ⟨r, _, rfl⟩ := List.mem_map.mp hv
     exact ⟨_, rfl, _, rfl, a, _, _, _, rfl, rfl, hS, ev, k r⟩
   · exact k 0
def sp__law_mixed : Sp := fun vs H Q _ => ∃ a b : Int, vs = [.int a, .int b] ∧ 0 ≤ a ∧ a < 4294967296 ∧ 0 ≤ b ∧ b < 65536 ∧ ∀ r : Int, 0 ≤ r → r < 49979687 → Q (.int r) H
theorem ok__law_mixed : FnOk P w K mg base CX0 1 f__law_mixed fd__law_mixed ["_law_number_here", "_law_salt"] sp__law_mixed := by
 refine T.F__law_mixed.ok sc__law_mixed (fun vs H Q E h => ?_) (fun cdv A outer s H vs Q E hr h => ?_)
 · obtain ⟨a, b, rfl, _⟩ := h; rfl
 · have hu := hu_of hr
   have hu0 := hr.units0
   obtain ⟨a, b, rfl, ha, ha', hb, hb', k⟩ := h
   refine ⟨_, (pss_cons (ps_set (i := 2) sc__law_mixed.nd rfl (by first | exact Or.inl rfl | exact Or.inr rfl) (pe_op op_mod (pe_op op_add (pe_op op_mul (pv 0) (pe_op op_add pe_int (pe_op op_mul pe_int (pv 1)))) (pe_op op_mul pe_int (pv 1))) pe_int))
     (pss_cons (ps_set (i := 3) sc__law_mixed.nd rfl (by first | exact Or.inl rfl | exact Or.inr rfl) (pe_op op_mod (pe_op op_add (pe_op op_mul (pv 2) (pv 2)) (pv 1)) pe_int))
     (pss_one (ps_ret (pe_op op_mod (pe_op op_add (pe_op op_mul (pv 3) (pv 3)) (pv 2)) pe_int))))), ?_⟩
   refine ⟨_, rfl, _, rfl, _, _, rfl, rfl, .inl ⟨by decide, by decide⟩, _, _, rfl, rfl, _, _, rfl, rfl, .inl ⟨by omega, by omega⟩, _, rfl, _, _, rfl, rfl, .inl ⟨by decide, by decide⟩, _, _, rfl, rfl, _, _, rfl, rfl, (by show (0 : Int) < 15485863; decide), ?_⟩
   have h1 := Int.emod_nonneg (a * (1299709 + 210 * b) + 7919 * b) (show (15485863 : Int) ≠ 0 by decide)
   have h2 := Int.emod_lt_of_pos (a * (1299709 + 210 * b) + 7919 * b) (show (0 : Int) < 15485863 by decide)
   refine ⟨_, rfl, _, rfl, _, _, rfl, rfl, .inl ⟨by omega, by omega⟩, _, rfl, _, _, rfl, rfl, _, _, rfl, rfl, (by show (0 : Int) < 32452843; decide), ?_⟩
   refine ⟨_, rfl, _, rfl, _, _, rfl, rfl, .inl ⟨?_, ?_⟩, _, rfl, _, _, rfl, rfl, _, _, rfl, rfl, (by show (0 : Int) < 49979687; decide), ?_⟩
   · exact Int.lt_of_lt_of_le (by decide) (Int.emod_nonneg _ (by decide))
   · exact Int.lt_trans (Int.emod_lt_of_pos _ (by decide)) (by decide)
   · exact k _ (Int.emod_nonneg _ (by decide)) (Int.emod_lt_of_pos _ (by decide))
def sp__law_number : Sp := fun vs H Q _ => ∃ c s : Int, vs = [.int c, .int s] ∧ 0 ≤ s ∧ s < 60000 ∧ ∀ r : Int, Q (.int r) H
theorem ok__law_number : FnOk P w K mg base CX0 2 f__law_number fd__law_number ["_law_cell", "_law_salt"] sp__law_number := by
 have G__law_mixed : FnOk P w K mg base CX0 1 f__law_mixed fd__law_mixed ["_law_number_here", "_law_salt"] sp__law_mixed := ok__law_mixed T
 refine T.F__law_number.ok sc__law_number (fun vs H Q E h => ?_) (fun cdv A outer s H vs Q E hr h => ?_)
 · obtain ⟨c, s, rfl, _⟩ := h; rfl
 · have hu := hu_of hr
   have hu0 := hr.units0
   obtain ⟨c, sa, rfl, hs, hs', k⟩ := h
   refine ⟨_, (pss_cons (ps_if (PW.pt (pw_and (pt_cmpR op_eq (pe_op op_mod (pv 0) pe_int) pe_int (nomark _)) (pw_and1 (pt_cmpR op_ge (pv 0) (pe_op op_mul pe_int (pe_op op_pow pe_int pe_int)) (nomark _))))) (pss_one (ps_ret (pe_op op_sub (pe_op op_fdiv (pv 0) pe_int) (pe_op op_pow pe_int pe_int)))) pss_nil)
     (pss_cons (ps_set (i := 2) sc__law_number.nd rfl (by first | exact Or.inl rfl | exact Or.inr rfl) (pe_op op_mod (pv 0) pe_int))
     (pss_cons (ps_set (i := 3) sc__law_number.nd rfl (by first | exact Or.inl rfl | exact Or.inr rfl) (pe_op op_add (pe_op op_mul (pe_call (k := 1) G__law_mixed (hr.mono (by decide)) rfl T.g__law_mixed T.F__law_mixed.kp T.b__law_mixed .nil pass0 (pa_cons (pv 2) (pa_cons (pv 1) pa_nil))) pe_int) (pe_call (k := 1) G__law_mixed (hr.mono (by decide)) rfl T.g__law_mixed T.F__law_mixed.kp T.b__law_mixed .nil pass0 (pa_cons (pv 2) (pa_cons (pe_op op_add (pv 1) pe_int) pa_nil)))))
     (pss_one (ps_ret (pe_op op_add (pe_op op_mul (pv 3) pe_int) (pe_call (k := 1) G__law_mixed (hr.mono (by decide)) rfl T.g__law_mixed T.F__law_mixed.kp T.b__law_mixed .nil pass0 (pa_cons (pv 2) (pa_cons (pe_op op_add (pv 1) pe_int) pa_nil))))))))), ?_⟩
   have p18 : CPow 10 18 := ⟨by decide, by decide, by decide⟩
   have n0 : 0 ≤ c % 1000000007 := Int.emod_nonneg _ (by decide)
   have n1 : c % 1000000007 < 4294967296 := Int.lt_trans (Int.emod_lt_of_pos _ (by decide)) (by decide)
   refine ⟨_, rfl, _, _, rfl, rfl, (by show (0 : Int) < 2; decide), rfl, _, rfl, ?_⟩
   refine ite2 (fun _ => ?_) (fun _ => ?_)
   · refine ⟨_, rfl, _, _, rfl, rfl, p18, _, _, rfl, rfl, .inl ⟨by decide, by decide⟩, _, _, rfl, rfl, _, rfl, ?_⟩
     refine ite2 (fun _ => ?_) (fun _ => ?_)
     · exact ⟨_, rfl, _, _, rfl, rfl, ⟨by decide, by decide⟩, _, _, rfl, rfl, p18, _, _, rfl, rfl, k _⟩
     · refine ⟨_, rfl, _, _, rfl, rfl, (by show (0 : Int) < 1000000007; decide), ?_⟩
       refine ⟨_, rfl, _, rfl, _, _, rfl, n0, n1, by omega, by omega, fun r1 _ _ => ?_⟩
       refine ⟨_, _, rfl, rfl, .inr ⟨by decide, by decide⟩, _, rfl, _, rfl, _, _, rfl, rfl, _, _, rfl, n0, n1, by omega, by omega, fun r2 _ _ => ⟨_, _, rfl, rfl, ?_⟩⟩
       refine ⟨_, rfl, _, _, rfl, rfl, .inr ⟨by decide, by decide⟩, _, rfl, _, rfl, _, _, rfl, rfl, _, _, rfl, n0, n1, by omega, by omega, fun r3 _ _ => ⟨_, _, rfl, rfl, k _⟩⟩
   · refine ⟨_, rfl, _, _, rfl, rfl, (by show (0 : Int) < 1000000007; decide), ?_⟩
     refine ⟨_, rfl, _, rfl, _, _, rfl, n0, n1, by omega, by omega, fun r1 _ _ => ?_⟩
     refine ⟨_, _, rfl, rfl, .inr ⟨by decide, by decide⟩, _, rfl, _, rfl, _, _, rfl, rfl, _, _, rfl, n0, n1, by omega, by omega, fun r2 _ _ => ⟨_, _, rfl, rfl, ?_⟩⟩
     refine ⟨_, rfl, _, _, rfl, rfl, .inr ⟨by decide, by decide⟩, _, rfl, _, rfl, _, _, rfl, rfl, _, _, rfl, n0, n1, by omega, by omega, fun r3 _ _ => ⟨_, _, rfl, rfl, k _⟩⟩
def sp__law_some : Sp := fun vs H Q _ => ∃ (n m : Int) (me : Str), vs = [.int n, .int m, .str me] ∧ Mn me ∧ 0 ≤ m ∧ m ≤ 3 ∧ ∀ (t : Addr) (z : Str) (r : Int), Sg z → (z.length : Int) ≤ m → (1 ≤ m → 1 ≤ z.length) → H t = none → Q (.ref t) (upd H t (.tup [.str z, .int r]))
theorem ok__law_some : FnOk P w K mg base CX0 1 f__law_some fd__law_some ["_law_number_here", "_law_many", "_law_menu_here"] sp__law_some := by
 refine T.F__law_some.ok sc__law_some (fun vs H Q E h => ?_) (fun cdv A outer s H vs Q E hr h => ?_)
 · obtain ⟨n, m, me, rfl, _⟩ := h; rfl
 · have hu := hu_of hr
   have hu0 := hr.units0
   obtain ⟨n, m, me, rfl, ⟨hm1, hm2, hm3⟩, h0, h3, k⟩ := h
   have hml : me.length ≤ sizeLine := Nat.le_trans hm2 (by decide)
   refine ⟨_, (pss_cons (ps_set (i := 3) sc__law_some.nd rfl (by first | exact Or.inl rfl | exact Or.inr rfl) pe_str)
     (pss_cons (ps_for PassesOwn.never rfl (pi_range1 rfl T.no_range (pa_cons (pv 1) pa_nil)) (pg_name (i := 4) sc__law_some.nd rfl (by first | exact Or.inl rfl | exact Or.inr rfl))
     (pss_cons (ps_set (i := 5) sc__law_some.nd rfl (by first | exact Or.inl rfl | exact Or.inr rfl) (pe_ix ix_str (pv 2) (pe_op op_mod (pv 0) (pe_callB call_len_str rfl T.no_len (by decide +kernel) (pa_cons (pv 2) pa_nil))) (fun _ _ => rfl)))
     (pss_cons (ps_set (i := 0) sc__law_some.nd rfl (by first | exact Or.inl rfl | exact Or.inr rfl) (pe_op op_fdiv (pv 0) (pe_callB call_len_str rfl T.no_len (by decide +kernel) (pa_cons (pv 2) pa_nil))))
     (pss_one (ps_if (pt_cmpR op_notIn_str (pv 5) (pv 3) rfl) (pss_one (ps_set (i := 3) sc__law_some.nd rfl (by first | exact Or.inl rfl | exact Or.inr rfl) (pe_op op_add_str (pv 3) (pv 5)))) pss_nil)))))
     (pss_one (ps_ret (pe_tup (pa_cons (pv 3) (pa_cons (pv 0) pa_nil))))))), ?_⟩
   refine ⟨_, rfl, m, rfl, by omega, by omega, ?_⟩
   refine for_range (fun i σ H2 => H2 = H ∧ ∃ (r : Int) (z : Str) (v1 v2 : Option V), σ = [some (.int r), some (.int m), some (.str me), some (.str z), v1, v2] ∧ Sg z ∧ z.length ≤ i ∧ (1 ≤ i → 1 ≤ z.length)) ⟨rfl, n, _, _, _, rfl, sg_nil, by decide, fun z => absurd z (by decide)⟩ ?_ ?_
   · rintro i σ H2 hi ⟨rfl, r, z, v1, v2, rfl, g, hz, hz1⟩
     have hlen : me.cps.toList.length = me.length := by rw [Array.length_toList]; rfl
     obtain ⟨c, ec, hc⟩ := at_int (xs := me.cps.toList) (Int.emod_nonneg r (show (me.length : Int) ≠ 0 by omega)) (by rw [hlen]; exact Int.emod_lt_of_pos r (by omega))
     refine ⟨_, rfl, _, rfl, _, rfl, me, rfl, hml, _, _, rfl, rfl, (by show (0 : Int) < me.length; omega), me, _, c, rfl, rfl, hml, ec, ?_⟩
     refine ⟨_, rfl, _, rfl, me, rfl, hml, _, _, rfl, rfl, ⟨by show (0 : Int) < me.length; omega, by show (me.length : Int) < 1073741824; omega⟩, ?_⟩
     refine ⟨_, rfl, _, rfl, _, _, rfl, rfl, _, rfl, ?_⟩
     refine ite2 (fun ha => ?_) (fun ha => ?_)
     · have e1 : (z ++ (⟨#[c]⟩ : Str)).length = z.length + 1 := app_len _ _
       refine ⟨_, rfl, _, rfl, _, _, rfl, rfl, ?_, rfl, _, _, _, _, rfl, sg_add g (hm3 c hc) ha, by rw [e1]; omega, fun _ => by rw [e1]; omega⟩
       exact Nat.le_trans (show z.length + 1 ≤ 5 by omega) (by decide)
     · refine ⟨rfl, _, _, _, _, rfl, g, by omega, fun _ => ?_⟩
       have hin : c ∈ z.cps.toList := Classical.byContradiction fun q => ha ((away_iff z c).mpr q)
       have := List.length_pos_of_mem hin
       rw [Array.length_toList] at this
       exact this
   · rintro σ H2 ⟨rfl, r, z, v1, v2, rfl, g, hz, hz1⟩
     exact ⟨_, rfl, _, rfl, (by show 2 ≤ sizeLine; decide), fun t ht => k t z r g (by omega) (fun q => hz1 (by omega)) ht⟩
def sp__law_menus : Sp := fun vs H Q _ => ∃ n : Int, vs = [.int n] ∧ ∀ (l : Addr) (m1 m2 m3 : Str), Mn m1 → Mn m2 → Mn m3 → H l = none → Q (.ref l) (upd H l (.lst [.str m1, .str m2, .str m3]))
theorem ok__law_menus : FnOk P w K mg base CX0 1 f__law_menus fd__law_menus ["_law_way"] sp__law_menus := by
 refine T.F__law_menus.ok sc__law_menus (fun vs H Q E h => ?_) (fun cdv A outer s H vs Q E hr h => ?_)
 · obtain ⟨n, rfl, _⟩ := h; rfl
 · have hu := hu_of hr
   have hu0 := hr.units0
   obtain ⟨n, rfl, k⟩ := h
   refine ⟨_, (pss_cons (ps_set (i := 1) sc__law_menus.nd rfl (by first | exact Or.inl rfl | exact Or.inr rfl) pe_str)
     (pss_cons (ps_if (pt_cmpR op_eq (pv 0) pe_int (nomark _)) (pss_one (ps_ret (pe_lst (pa_cons pe_str (pa_cons pe_str (pa_cons pe_str pa_nil)))))) pss_nil)
     (pss_cons (ps_if (pt_cmpR op_eq (pv 0) pe_int (nomark _)) (pss_one (ps_ret (pe_lst (pa_cons pe_str (pa_cons pe_str (pa_cons pe_str pa_nil)))))) pss_nil)
     (pss_one (ps_ret (pe_lst (pa_cons (pv 1) (pa_cons (pv 1) (pa_cons (pv 1) pa_nil))))))))), ?_⟩
   refine ⟨_, rfl, rfl, _, rfl, ?_⟩
   refine ite2 (fun _ => ?_) (fun _ => ?_)
   · exact ⟨by decide, fun l hl => k l _ _ _ (by decide +kernel) (by decide +kernel) (by decide +kernel) hl⟩
   · refine ⟨_, rfl, rfl, _, rfl, ?_⟩
     refine ite2 (fun _ => ?_) (fun _ => ?_)
     · exact ⟨by decide, fun l hl => k l _ _ _ (by decide +kernel) (by decide +kernel) (by decide +kernel) hl⟩
     · exact ⟨_, rfl, _, rfl, _, rfl, by decide, fun l hl => k l _ _ _ (by decide +kernel) (by decide +kernel) (by decide +kernel) hl⟩
def sp__law_told : Sp := fun vs H Q _ => ∃ c : Int, vs = [.int c] ∧ ∀ (t : Addr) (p q f : Str) (b1 b2 b3 b4 : Bool) (H' : Hp), Gd p q f → H t = none → H' t = some (.tup (seven p q f b1 b2 b3 b4)) → Same H H' → Q (.ref t) H'
theorem ok__law_told : FnOk P w K mg base CX0 3 f__law_told fd__law_told ["_law_cell"] sp__law_told := by
 have G__law_menus : FnOk P w K mg base CX0 1 f__law_menus fd__law_menus ["_law_way"] sp__law_menus := ok__law_menus T
 have G__law_number : FnOk P w K mg base CX0 2 f__law_number fd__law_number ["_law_cell", "_law_salt"] sp__law_number := ok__law_number T
 have G__law_some : FnOk P w K mg base CX0 1 f__law_some fd__law_some ["_law_number_here", "_law_many", "_law_menu_here"] sp__law_some := ok__law_some T
 refine T.F__law_told.ok sc__law_told (fun vs H Q E h => ?_) (fun cdv A outer s H vs Q E hr h => ?_)
 · obtain ⟨c, rfl, _⟩ := h; rfl
 · have hu := hu_of hr
   have hu0 := hr.units0
   obtain ⟨c, rfl, k⟩ := h
   refine ⟨_, (pss_cons (ps_set (i := 1) sc__law_told.nd rfl (by first | exact Or.inl rfl | exact Or.inr rfl) (pe_call (k := 2) G__law_number (hr.mono (by decide)) rfl T.g__law_number T.F__law_number.kp T.b__law_number .nil pass0 (pa_cons (pv 0) (pa_cons pe_int pa_nil))))
     (pss_cons (ps_set (i := 2) sc__law_told.nd rfl (by first | exact Or.inl rfl | exact Or.inr rfl) (pe_op op_mod (pv 1) pe_int))
     (pss_cons (ps_set (i := 3) sc__law_told.nd rfl (by first | exact Or.inl rfl | exact Or.inr rfl) (pe_lst (pa_cons (pe_op op_add pe_int (pe_op op_mod (pe_op op_fdiv (pv 1) pe_int) pe_int)) (pa_cons (pe_op op_mod (pe_op op_fdiv (pv 1) pe_int) pe_int) (pa_cons (pe_op op_mod (pe_op op_fdiv (pv 1) pe_int) pe_int) pa_nil)))))
     (pss_cons (ps_set (i := 4) sc__law_told.nd rfl (by first | exact Or.inl rfl | exact Or.inr rfl) (pe_call (k := 1) G__law_menus (hr.mono (by decide)) rfl T.g__law_menus T.F__law_menus.kp T.b__law_menus .nil pass0 (pa_cons (pe_op op_mod (pe_op op_fdiv (pv 1) pe_int) pe_int) pa_nil)))
     (pss_cons (ps_asg (pe_call (k := 1) G__law_some (hr.mono (by decide)) rfl T.g__law_some T.F__law_some.kp T.b__law_some .nil pass0 (pa_cons (pe_op op_fdiv (pv 1) pe_int) (pa_cons (pe_ix (ixK_list K rfl) (pv 3) pe_int (fun _ _ => rfl)) (pa_cons (pe_ix (ixK_list K rfl) (pv 4) pe_int (fun _ _ => rfl)) pa_nil)))) (pgK_tup K rfl 2 rfl (pgs_cons (pg_name (i := 5) sc__law_told.nd rfl (by first | exact Or.inl rfl | exact Or.inr rfl)) (pgs_cons (pg_name (i := 1) sc__law_told.nd rfl (by first | exact Or.inl rfl | exact Or.inr rfl)) pgs_nil))))
     (pss_cons (ps_asg (pe_call (k := 1) G__law_some (hr.mono (by decide)) rfl T.g__law_some T.F__law_some.kp T.b__law_some .nil pass0 (pa_cons (pv 1) (pa_cons (pe_ix (ixK_list K rfl) (pv 3) pe_int (fun _ _ => rfl)) (pa_cons (pe_ix (ixK_list K rfl) (pv 4) pe_int (fun _ _ => rfl)) pa_nil)))) (pgK_tup K rfl 2 rfl (pgs_cons (pg_name (i := 6) sc__law_told.nd rfl (by first | exact Or.inl rfl | exact Or.inr rfl)) (pgs_cons (pg_name (i := 1) sc__law_told.nd rfl (by first | exact Or.inl rfl | exact Or.inr rfl)) pgs_nil))))
     (pss_cons (ps_asg (pe_call (k := 1) G__law_some (hr.mono (by decide)) rfl T.g__law_some T.F__law_some.kp T.b__law_some .nil pass0 (pa_cons (pv 1) (pa_cons (pe_ix (ixK_list K rfl) (pv 3) pe_int (fun _ _ => rfl)) (pa_cons (pe_ix (ixK_list K rfl) (pv 4) pe_int (fun _ _ => rfl)) pa_nil)))) (pgK_tup K rfl 2 rfl (pgs_cons (pg_name (i := 7) sc__law_told.nd rfl (by first | exact Or.inl rfl | exact Or.inr rfl)) (pgs_cons (pg_name (i := 1) sc__law_told.nd rfl (by first | exact Or.inl rfl | exact Or.inr rfl)) pgs_nil))))
     (pss_cons (ps_set (i := 8) sc__law_told.nd rfl (by first | exact Or.inl rfl | exact Or.inr rfl) (pe_lst (pa_cons (pe_cmpR op_eq (pe_op op_mod (pv 2) pe_int) pe_int (nomark _)) (pa_cons (pe_cmpR op_eq (pe_op op_mod (pe_op op_fdiv (pv 2) pe_int) pe_int) pe_int (nomark _)) (pa_cons (pe_cmpR op_eq (pe_op op_mod (pe_op op_fdiv (pv 2) pe_int) pe_int) pe_int (nomark _)) (pa_cons (pe_cmpR op_eq (pe_op op_mod (pe_op op_fdiv (pv 2) pe_int) pe_int) pe_int (nomark _)) pa_nil))))))
     (pss_one (ps_ret (pe_tup (pa_cons (pv 5) (pa_cons (pv 6) (pa_cons (pv 7) (pa_cons (pe_ix (ixK_list K rfl) (pv 8) pe_int (fun _ _ => rfl)) (pa_cons (pe_ix (ixK_list K rfl) (pv 8) pe_int (fun _ _ => rfl)) (pa_cons (pe_ix (ixK_list K rfl) (pv 8) pe_int (fun _ _ => rfl)) (pa_cons (pe_ix (ixK_list K rfl) (pv 8) pe_int (fun _ _ => rfl)) pa_nil)))))))))))))))))), ?_⟩
   refine ⟨_, rfl, _, _, rfl, by decide, by decide, fun n => ?_⟩
   refine ⟨_, rfl, _, _, rfl, rfl, (by show (0 : Int) < 16; decide), ?_⟩
   refine ⟨_, rfl, _, _, rfl, rfl, ⟨by decide, by decide⟩, _, _, rfl, rfl, (by show (0 : Int) < 3; decide), _, _, rfl, rfl, _, rfl, _, _, rfl, rfl, ⟨by decide, by decide⟩, _, _, rfl, rfl, (by show (0 : Int) < 3; decide), _, rfl, _, _, rfl, rfl, ⟨by decide, by decide⟩, _, _, rfl, rfl, (by show (0 : Int) < 3; decide), (by show 3 ≤ sizeLine; decide), fun l hl => ?_⟩
   have m1 := Int.emod_nonneg (n / 16) (show (3 : Int) ≠ 0 by decide)
   have m1' := Int.emod_lt_of_pos (n / 16) (show (0 : Int) < 3 by decide)
   have m2 := Int.emod_nonneg (n / 48) (show (3 : Int) ≠ 0 by decide)
   have m2' := Int.emod_lt_of_pos (n / 48) (show (0 : Int) < 3 by decide)
   have m3 := Int.emod_nonneg (n / 144) (show (3 : Int) ≠ 0 by decide)
   have m3' := Int.emod_lt_of_pos (n / 144) (show (0 : Int) < 3 by decide)
   have h1 : (upd H l (.lst [.int (1 + n / 16 % 3), .int (n / 48 % 3), .int (n / 144 % 3)])) l = some (.lst [.int (1 + n / 16 % 3), .int (n / 48 % 3), .int (n / 144 % 3)]) := upd_same
   have s1 : Same H (upd H l (.lst [.int (1 + n / 16 % 3), .int (n / 48 % 3), .int (n / 144 % 3)])) := same_new hl
   generalize upd H l (.lst [.int (1 + n / 16 % 3), .int (n / 48 % 3), .int (n / 144 % 3)]) = H1 at h1 s1 ⊢
   refine ⟨_, rfl, _, _, rfl, rfl, ⟨by decide, by decide⟩, _, _, rfl, rfl, (by show (0 : Int) < 3; decide), _, rfl, fun l2 e1 e2 e3 g1 g2 g3 hl2 => ?_⟩
   have h2 : (upd H1 l2 (.lst [.str e1, .str e2, .str e3])) l2 = some (.lst [.str e1, .str e2, .str e3]) := upd_same
   have s2 : Same H1 (upd H1 l2 (.lst [.str e1, .str e2, .str e3])) := same_new hl2
   generalize upd H1 l2 (.lst [.str e1, .str e2, .str e3]) = H2 at h2 s2 ⊢
   have h12 := s2 _ _ h1
   refine ⟨_, rfl, _, _, rfl, rfl, ⟨by decide, by decide⟩, _, rfl, l, _, _, _, rfl, rfl, SqL.of h12, rfl, _, rfl, l2, _, _, _, rfl, rfl, SqL.of h2, rfl, _, _, _, rfl, g1, by omega, by omega, fun t1 p r1 gp lp lp1 ht1 => ?_⟩
   refine ⟨t1, _, rfl, SqT.of upd_same, rfl, _, _, rfl, _, _, rfl, rfl, ?_⟩
   have s3 : Same H2 (upd H2 t1 (.tup [.str p, .int r1])) := same_new ht1
   generalize upd H2 t1 (.tup [.str p, .int r1]) = H3 at s3 ⊢
   refine ⟨_, rfl, _, rfl, l, _, _, _, rfl, rfl, SqL.of (s3 _ _ h12), rfl, _, rfl, l2, _, _, _, rfl, rfl, SqL.of (s3 _ _ h2), rfl, _, _, _, rfl, g2, by omega, by omega, fun t2 q r2 gq lq lq1 ht2 => ?_⟩
   refine ⟨t2, _, rfl, SqT.of upd_same, rfl, _, _, rfl, _, _, rfl, rfl, ?_⟩
   have s4 : Same H3 (upd H3 t2 (.tup [.str q, .int r2])) := same_new ht2
   generalize upd H3 t2 (.tup [.str q, .int r2]) = H4 at s4 ⊢
   refine ⟨_, rfl, _, rfl, l, _, _, _, rfl, rfl, SqL.of (s4 _ _ (s3 _ _ h12)), rfl, _, rfl, l2, _, _, _, rfl, rfl, SqL.of (s4 _ _ (s3 _ _ h2)), rfl, _, _, _, rfl, g3, by omega, by omega, fun t3 f r3 gf lf lf1 ht3 => ?_⟩
   refine ⟨t3, _, rfl, SqT.of upd_same, rfl, _, _, rfl, _, _, rfl, rfl, ?_⟩
   have s5 : Same H4 (upd H4 t3 (.tup [.str f, .int r3])) := same_new ht3
   generalize upd H4 t3 (.tup [.str f, .int r3]) = H5 at s5 ⊢
   refine ⟨_, rfl, _, _, rfl, rfl, (by show (0 : Int) < 2; decide), rfl, _, rfl, _, _, rfl, rfl, ⟨by decide, by decide⟩, _, _, rfl, rfl, (by show (0 : Int) < 2; decide), rfl, _, rfl, _, _, rfl, rfl, ⟨by decide, by decide⟩, _, _, rfl, rfl, (by show (0 : Int) < 2; decide), rfl, _, rfl, _, _, rfl, rfl, ⟨by decide, by decide⟩, _, _, rfl, rfl, (by show (0 : Int) < 2; decide), rfl, (by show 4 ≤ sizeLine; decide), fun l6 hl6 => ?_⟩
   have s6 := same_new (o := HO.lst [.bl (decide (V.int (n % 16 % 2) = V.int 1)), .bl (decide (V.int (n % 16 / 2 % 2) = V.int 1)), .bl (decide (V.int (n % 16 / 4 % 2) = V.int 1)), .bl (decide (V.int (n % 16 / 8 % 2) = V.int 1))]) hl6
   refine ⟨_, rfl, _, rfl, _, rfl, _, rfl, l6, _, _, _, rfl, rfl, SqL.of upd_same, rfl, _, rfl, l6, _, _, _, rfl, rfl, SqL.of upd_same, rfl, _, rfl, l6, _, _, _, rfl, rfl, SqL.of upd_same, rfl, _, rfl, l6, _, _, _, rfl, rfl, SqL.of upd_same, rfl, (by show 7 ≤ sizeLine; decide), fun t ht => ?_⟩
   have sall := ((((s1.trans s2).trans s3).trans s4).trans s5).trans s6
   exact k t p q f _ _ _ _ _ ⟨gp, gq, gf, lp1 (by omega), by omega, by omega, by omega⟩ (sall.free ht) upd_same (sall.trans (same_new ht))
def sp__law_drawn : Sp := fun vs H Q _ => ∃ (c m : Int), vs = [.int c, .int m] ∧ 0 ≤ m ∧ m ≤ 1000 ∧ ∀ (l : Addr) (ns : List Int) (H' : Hp), ns.length = m.toNat → (∀ n ∈ ns, 0 ≤ n) → H l = none → H' l = some (.lst (ns.map V.int)) → Same H H' → Q (.ref l) H'
theorem ok__law_drawn : FnOk P w K mg base CX0 2 f__law_drawn fd__law_drawn ["_law_cell", "_law_many"] sp__law_drawn := by
 have G__law_mixed : FnOk P w K mg base CX0 1 f__law_mixed fd__law_mixed ["_law_number_here", "_law_salt"] sp__law_mixed := ok__law_mixed T
 refine T.F__law_drawn.ok sc__law_drawn (fun vs H Q E h => ?_) (fun cdv A outer s H vs Q E hr h => ?_)
 · obtain ⟨c, m, rfl, _⟩ := h; rfl
 · have hu := hu_of hr
   have hu0 := hr.units0
   obtain ⟨c, m, rfl, hm, hm', k⟩ := h
   refine ⟨_, (pss_cons (ps_if (PW.pt (pw_or (pt_cmpR op_eq (pe_op op_mod (pv 0) pe_int) pe_int (nomark _)) (pw_or1 (pt_cmpR op_lt (pv 0) (pe_op op_mul pe_int (pe_op op_pow pe_int pe_int)) (nomark _))))) (pss_cons (ps_set (i := 2) sc__law_drawn.nd rfl (by first | exact Or.inl rfl | exact Or.inr rfl) (pe_op op_mod (pv 0) pe_int))
     (pss_one (ps_ret (pe_comp rfl (show CompScope ["_law_cell", "_law_many", "_law_number_here", "_law_found", "_law_k"] (defScope s__law_drawn) ["_law_k", "_law_number_here"] 1 [2] _ from ⟨rfl, by decide +kernel, by decide +kernel, by decide +kernel, by decide +kernel, rfl, rfl, by decide +kernel⟩) (pi_range1 rfl T.no_range (pa_cons (pv 1) pa_nil)) (fun _ _ _ _ => (pg_name (i := 0) (show (["_law_k", "_law_number_here"] : List Str).Nodup by decide +kernel) rfl (by first | exact Or.inl rfl | exact Or.inr rfl))) (fun _ _ _ _ => pif_nil) (fun _ _ _ _ => (pe_call (k := 1) G__law_mixed (hr.mono (by decide)) rfl T.g__law_mixed T.F__law_mixed.kp T.b__law_mixed .nil pass0 (pa_cons (pv 1) (pa_cons (pe_op op_add pe_int (pe_op op_mul pe_int (pv 0))) pa_nil)))))))) pss_nil)
     (pss_cons (ps_set (i := 3) sc__law_drawn.nd rfl (by first | exact Or.inl rfl | exact Or.inr rfl) (pe_lst pa_nil))
     (pss_cons (ps_set (i := 2) sc__law_drawn.nd rfl (by first | exact Or.inl rfl | exact Or.inr rfl) (pe_op op_sub (pe_op op_fdiv (pv 0) pe_int) (pe_op op_pow pe_int pe_int)))
     (pss_cons (ps_for PassesOwn.never rfl (pi_range1 rfl T.no_range (pa_cons (pv 1) pa_nil)) (pg_name (i := 4) sc__law_drawn.nd rfl (by first | exact Or.inl rfl | exact Or.inr rfl))
     (pss_cons (ps_expr (peK_bm K rfl PySem.F.plainAttrs_list PySem.F.slot_list_append PySem.F.type_list_append mt_append (pv 3) (pa_cons (pe_op op_mod (pv 2) pe_int) pa_nil)))
     (pss_one (ps_set (i := 2) sc__law_drawn.nd rfl (by first | exact Or.inl rfl | exact Or.inr rfl) (pe_op op_fdiv (pv 2) pe_int)))))
     (pss_one (ps_ret (pv 3))))))), ?_⟩
   refine ⟨_, rfl, _, _, rfl, rfl, (by show (0 : Int) < 2; decide), rfl, _, rfl, ?_⟩
   have way1 : ∀ {D : Addr} {v : Option V}, H D = none → CompR (Itr 0 m.toNat) (gName 0) tYes (tCall sp__law_mixed [] E0 (tCons (tVar 1) (tCons (tOp (rI0 fun i j => .int (i + j)) (tC (.int 71)) (tOp (rI CMul fun i j => .int (i * j)) (tC (.int 2)) (tVar 0))) tNil))) Q D [none, some (.int (c % 1000000007))] H := by
     intro D v hD
     refine comp_range (fun i ys τ H2 => (∃ v, τ = [v, some (.int (c % 1000000007))]) ∧ Same H H2 ∧ H2 D = some (.lst ys) ∧ ∃ ns : List Int, ys = ns.map V.int ∧ ns.length = i ∧ ∀ n ∈ ns, 0 ≤ n) ⟨⟨_, rfl⟩, same_new hD, upd_same, [], rfl, rfl, fun _ z => nomatch z⟩ (fun i ys τ H2 _ p => p.2.2.1) ?_ ?_
     · rintro i ys τ H2 hi ⟨⟨v, rfl⟩, s2, hl, ns, rfl, hn, hp⟩
       refine gyes ?_
       refine ⟨_, rfl, _, rfl, _, _, rfl, rfl, .inl ⟨by decide, by decide⟩, _, _, rfl, rfl, _, _, rfl, Int.emod_nonneg _ (by decide), Int.lt_trans (Int.emod_lt_of_pos _ (by decide)) (by decide), by omega, by omega, fun r hr0 _ => ?_⟩
       refine ⟨hl, ?_, ⟨_, rfl⟩, same_set hD s2, upd_same, ns ++ [r], by rw [List.map_append]; rfl, by rw [List.length_append, hn]; rfl, fun n hn' => ?_⟩
       · rw [List.length_map, hn]
         exact Nat.lt_of_lt_of_le (show i < 1000 by omega) (by decide)
       · rcases List.mem_append.mp hn' with z | z
         · exact hp n z
         · rw [List.mem_singleton.mp z]; exact hr0
     · rintro ys τ H2 ⟨⟨v, rfl⟩, s2, hl, ns, rfl, hn, hp⟩
       exact k D ns H2 hn hp hD hl s2
   refine ite2 (fun _ => ?_) (fun _ => ?_)
   · refine iteT ?_
     refine ⟨_, rfl, _, _, rfl, rfl, (by show (0 : Int) < 1000000007; decide), ?_⟩
     exact ⟨_, rfl, m, rfl, by omega, by omega, fun D hD => way1 (v := none) hD⟩
   · refine ⟨_, rfl, _, _, rfl, rfl, ⟨by decide, by decide, by decide⟩, _, _, rfl, rfl, .inl ⟨by decide, by decide⟩, _, _, rfl, rfl, _, rfl, ?_⟩
     refine ite2 (fun _ => ?_) (fun _ => ?_)
     · refine ⟨_, rfl, _, _, rfl, rfl, (by show (0 : Int) < 1000000007; decide), ?_⟩
       exact ⟨_, rfl, m, rfl, by omega, by omega, fun D hD => way1 (v := none) hD⟩
     · refine ⟨by decide, fun l hl => ?_⟩
       refine ⟨_, rfl, _, _, rfl, rfl, ⟨by decide, by decide⟩, _, _, rfl, rfl, ⟨by decide, by decide, by decide⟩, _, _, rfl, rfl, ?_⟩
       refine ⟨_, rfl, m, rfl, by omega, by omega, ?_⟩
       refine for_range (fun i σ H2 => Same H H2 ∧ ∃ (x : Int) (v : Option V) (ns : List Int), σ = [some (.int c), some (.int m), some (.int x), some (.ref l), v] ∧ H2 l = some (.lst (ns.map V.int)) ∧ ns.length = i ∧ ∀ n ∈ ns, 0 ≤ n) ⟨same_new hl, _, _, [], rfl, upd_same, rfl, fun _ z => nomatch z⟩ ?_ ?_
       · rintro i σ H2 hi ⟨s2, x, v, ns, rfl, hq, hn, hp⟩
         refine ⟨_, rfl, .inl ⟨rfl, _, SqL.of hq⟩, _, rfl, _, _, rfl, rfl, (by show (0 : Int) < 4096; decide), l, _, _, rfl, rfl, hq, ?_, ?_⟩
         · rw [List.length_map, hn]
           exact Nat.lt_of_lt_of_le (show i < 1000 by omega) (by decide)
         · refine ⟨_, rfl, _, _, rfl, rfl, ⟨by decide, by decide⟩, ?_⟩
           refine ⟨same_set hl s2, _, _, ns ++ [x % 4096], rfl, ?_, by rw [List.length_append, hn]; rfl, fun n hn' => ?_⟩
           · rw [upd_same, List.map_append]; rfl
           · rcases List.mem_append.mp hn' with z | z
             · exact hp n z
             · rw [List.mem_singleton.mp z]; exact Int.emod_nonneg _ (by decide)
       · rintro σ H2 ⟨s2, x, v, ns, rfl, hq, hn, hp⟩
         exact ⟨_, rfl, k l ns H2 hn hp hl hq s2⟩
def sp__law_flags (K : PySem.W.Frag) (Ds : List Addr) : Sp := fun vs H Q _ => ∃ (ea C B : Addr) (f : Nat → Bool), vs = [.ref ea] ∧ XOb H ea C ∧ XC1 K C B Ds f ∧ ∀ l H', Same H H' → H' l = some (.lst ((List.range 11).map fun j => .bl (f j))) → Q (.ref l) H'
theorem ok__law_flags : FnOkM P w K mg base 1 f__law_flags fd__law_flags ["_law_e"] (sp__law_flags K [C_NoText, C_NoTable, C_NoDialect, C_NoFamily, C_NoMost, C_NoAsk, C_NoRow, C_NoName, C_TooMany, C_Broken, C_NoWriting]) := by
 refine T.F__law_flags.okM sc__law_flags (fun vs H Q E h => ?_) (fun cdv A outer s H vs Q E hr h => ?_)
 · obtain ⟨ea, C, B, f, rfl, _⟩ := h; rfl
 · have hu := hr.hu
   have hu0 := hr.units0
   obtain ⟨ea, C, B, f, rfl, xo, x1, k⟩ := h
   obtain ⟨⟨N, bm, ini, xc, tl⟩, xk, ask, _, _⟩ := x1
   refine ⟨_, (pss_cons (ps_set (i := 1) sc__law_flags.nd rfl (by first | exact Or.inl rfl | exact Or.inr rfl) (pe_lst (pa_cons (pe_callB (call_isX rfl) rfl T.no_isinstance (by decide +kernel) (pa_cons (pv 0) (pa_cons (pe_gref rfl T.g_NoText) pa_nil))) (pa_cons (pe_callB (call_isX rfl) rfl T.no_isinstance (by decide +kernel) (pa_cons (pv 0) (pa_cons (pe_gref rfl T.g_NoTable) pa_nil))) (pa_cons (pe_callB (call_isX rfl) rfl T.no_isinstance (by decide +kernel) (pa_cons (pv 0) (pa_cons (pe_gref rfl T.g_NoDialect) pa_nil))) (pa_cons (pe_callB (call_isX rfl) rfl T.no_isinstance (by decide +kernel) (pa_cons (pv 0) (pa_cons (pe_gref rfl T.g_NoFamily) pa_nil))) pa_nil))))))
     (pss_cons (ps_set (i := 1) sc__law_flags.nd rfl (by first | exact Or.inl rfl | exact Or.inr rfl) (pe_op op_cat (pv 1) (pe_lst (pa_cons (pe_callB (call_isX rfl) rfl T.no_isinstance (by decide +kernel) (pa_cons (pv 0) (pa_cons (pe_gref rfl T.g_NoMost) pa_nil))) (pa_cons (pe_callB (call_isX rfl) rfl T.no_isinstance (by decide +kernel) (pa_cons (pv 0) (pa_cons (pe_gref rfl T.g_NoAsk) pa_nil))) (pa_cons (pe_callB (call_isX rfl) rfl T.no_isinstance (by decide +kernel) (pa_cons (pv 0) (pa_cons (pe_gref rfl T.g_NoRow) pa_nil))) (pa_cons (pe_callB (call_isX rfl) rfl T.no_isinstance (by decide +kernel) (pa_cons (pv 0) (pa_cons (pe_gref rfl T.g_NoName) pa_nil))) pa_nil)))))))
     (pss_one (ps_ret (pe_op op_cat (pv 1) (pe_lst (pa_cons (pe_callB (call_isX rfl) rfl T.no_isinstance (by decide +kernel) (pa_cons (pv 0) (pa_cons (pe_gref rfl T.g_TooMany) pa_nil))) (pa_cons (pe_callB (call_isX rfl) rfl T.no_isinstance (by decide +kernel) (pa_cons (pv 0) (pa_cons (pe_gref rfl T.g_Broken) pa_nil))) (pa_cons (pe_callB (call_isX rfl) rfl T.no_isinstance (by decide +kernel) (pa_cons (pv 0) (pa_cons (pe_gref rfl T.g_NoWriting) pa_nil))) pa_nil))))))))), ?_⟩
   refine ⟨_, rfl, ea, C, N, bm, ini, _, f 0, rfl, xo, xc, tl, xk, .inr ⟨_, rfl, ask 0 _ rfl⟩, _, rfl, ea, C, N, bm, ini, _, f 1, rfl, xo, xc, tl, xk, .inr ⟨_, rfl, ask 1 _ rfl⟩, _, rfl, ea, C, N, bm, ini, _, f 2, rfl, xo, xc, tl, xk, .inr ⟨_, rfl, ask 2 _ rfl⟩, _, rfl, ea, C, N, bm, ini, _, f 3, rfl, xo, xc, tl, xk, .inr ⟨_, rfl, ask 3 _ rfl⟩, (by show (4 : Nat) ≤ sizeLine; decide), fun l1 h1 => ?_⟩
   have e1 : (upd H l1 (.lst [.bl (f 0), .bl (f 1), .bl (f 2), .bl (f 3)])) l1 = some (.lst [.bl (f 0), .bl (f 1), .bl (f 2), .bl (f 3)]) := upd_same
   have s1 := same_new (o := HO.lst [.bl (f 0), .bl (f 1), .bl (f 2), .bl (f 3)]) h1
   generalize upd H l1 (.lst [.bl (f 0), .bl (f 1), .bl (f 2), .bl (f 3)]) = H1 at e1 s1 ⊢
   have xo1 := xo.mono s1
   refine ⟨_, rfl, _, rfl, ea, C, N, bm, ini, _, f 4, rfl, xo1, xc, tl, xk, .inr ⟨_, rfl, ask 4 _ rfl⟩, _, rfl, ea, C, N, bm, ini, _, f 5, rfl, xo1, xc, tl, xk, .inr ⟨_, rfl, ask 5 _ rfl⟩, _, rfl, ea, C, N, bm, ini, _, f 6, rfl, xo1, xc, tl, xk, .inr ⟨_, rfl, ask 6 _ rfl⟩, _, rfl, ea, C, N, bm, ini, _, f 7, rfl, xo1, xc, tl, xk, .inr ⟨_, rfl, ask 7 _ rfl⟩, (by show (4 : Nat) ≤ sizeLine; decide), fun l2 h2 => ?_⟩
   have e2 : (upd H1 l2 (.lst [.bl (f 4), .bl (f 5), .bl (f 6), .bl (f 7)])) l2 = some (.lst [.bl (f 4), .bl (f 5), .bl (f 6), .bl (f 7)]) := upd_same
   have s2 := same_new (o := HO.lst [.bl (f 4), .bl (f 5), .bl (f 6), .bl (f 7)]) h2
   generalize upd H1 l2 (.lst [.bl (f 4), .bl (f 5), .bl (f 6), .bl (f 7)]) = H2 at e2 s2 ⊢
   refine ⟨l1, l2, _, _, rfl, rfl, s2 _ _ e1, e2, (by show (8 : Nat) ≤ sizeLine; decide), fun l3 h3 => ?_⟩
   have e3 : (upd H2 l3 (.lst ([.bl (f 0), .bl (f 1), .bl (f 2), .bl (f 3)] ++ [.bl (f 4), .bl (f 5), .bl (f 6), .bl (f 7)]))) l3 = some (.lst ([.bl (f 0), .bl (f 1), .bl (f 2), .bl (f 3)] ++ [.bl (f 4), .bl (f 5), .bl (f 6), .bl (f 7)])) := upd_same
   have s3 := same_new (o := HO.lst ([.bl (f 0), .bl (f 1), .bl (f 2), .bl (f 3)] ++ [.bl (f 4), .bl (f 5), .bl (f 6), .bl (f 7)])) h3
   generalize upd H2 l3 (.lst ([.bl (f 0), .bl (f 1), .bl (f 2), .bl (f 3)] ++ [.bl (f 4), .bl (f 5), .bl (f 6), .bl (f 7)])) = H3 at e3 s3 ⊢
   have xo3 := (xo1.mono s2).mono s3
   refine ⟨_, rfl, _, rfl, ea, C, N, bm, ini, _, f 8, rfl, xo3, xc, tl, xk, .inr ⟨_, rfl, ask 8 _ rfl⟩, _, rfl, ea, C, N, bm, ini, _, f 9, rfl, xo3, xc, tl, xk, .inr ⟨_, rfl, ask 9 _ rfl⟩, _, rfl, ea, C, N, bm, ini, _, f 10, rfl, xo3, xc, tl, xk, .inr ⟨_, rfl, ask 10 _ rfl⟩, (by show (3 : Nat) ≤ sizeLine; decide), fun l4 h4 => ?_⟩
   have e4 : (upd H3 l4 (.lst [.bl (f 8), .bl (f 9), .bl (f 10)])) l4 = some (.lst [.bl (f 8), .bl (f 9), .bl (f 10)]) := upd_same
   have s4 := same_new (o := HO.lst [.bl (f 8), .bl (f 9), .bl (f 10)]) h4
   generalize upd H3 l4 (.lst [.bl (f 8), .bl (f 9), .bl (f 10)]) = H4 at e4 s4 ⊢
   refine ⟨l3, l4, _, _, rfl, rfl, s4 _ _ e3, e4, (by show (11 : Nat) ≤ sizeLine; decide), fun l5 h5 => ?_⟩
   exact k l5 _ ((((s1.trans s2).trans s3).trans s4).trans (same_new h5)) upd_same
def sp__law_near (K : PySem.W.Frag) : Sp := fun vs H Q _ => ∃ (t : Addr) (n : Int) (x : Cho), vs = [.ref t, .int n] ∧ H t = some (.tup (sevC x)) ∧ GdC x ∧ ∀ t2 (y : Cho) H', GdC y → H' t2 = some (.tup (sevC y)) → Same H H' → Q (.ref t2) H'
theorem ok__law_near : FnOk P w K mg base CX0 1 f__law_near fd__law_near ["_law_told_here", "_law_x"] (sp__law_near K) := by
 refine T.F__law_near.ok sc__law_near (fun vs H Q E h => ?_) (fun cdv A outer s H vs Q E hr h => ?_)
 · obtain ⟨t, n, x, rfl, _⟩ := h; rfl
 · have hu := hu_of hr
   have hu0 := hr.units0
   obtain ⟨t, n, x, rfl, ht, g, k⟩ := h
   refine ⟨_, (pss_cons (ps_set (i := 2) sc__law_near.nd rfl (by first | exact Or.inl rfl | exact Or.inr rfl) (pe_op op_mod (pv 1) pe_int))
     (pss_cons (ps_set (i := 3) sc__law_near.nd rfl (by first | exact Or.inl rfl | exact Or.inr rfl) (pe_callTy (callK_list_of K rfl) rfl T.no_list (by decide +kernel) (pa_cons (pv 0) pa_nil)))
     (pss_cons (ps_if (pt_cmpR op_lt (pv 2) pe_int (nomark _)) (pss_one (ps_asg (pe_not (pe_ix (ixK_list K rfl) (pv 3) (pe_op op_add pe_int (pv 2)) (fun _ _ => rfl))) (pg_sub (pv 3) (pe_op op_add pe_int (pv 2)) set_list))) pss_nil)
     (pss_cons (ps_if (pt_cmpR op_eq (pv 2) pe_int (nomark _)) (pss_one (ps_asg (pe_slice sl_str (pe_ix (ixK_list K rfl) (pv 3) pe_int (fun _ _ => rfl)) po_none (po_some pe_int)) (pg_sub (pv 3) pe_int set_list))) pss_nil)
     (pss_cons (ps_if (pt_cmpR op_eq (pv 2) pe_int (nomark _)) (pss_cons (ps_asg (pe_slrevS (pe_ix (ixK_list K rfl) (pv 3) pe_int (fun _ _ => rfl)) (pe_un un_neg pe_int)) (pg_sub (pv 3) pe_int set_list))
     (pss_one (ps_asg (pe_slrevS (pe_ix (ixK_list K rfl) (pv 3) pe_int (fun _ _ => rfl)) (pe_un un_neg pe_int)) (pg_sub (pv 3) pe_int set_list)))) pss_nil)
     (pss_cons (ps_if (pt_cmpR op_eq (pv 2) pe_int (nomark _)) (pss_one (ps_asg (pe_slice sl_str (pe_ix (ixK_list K rfl) (pv 3) pe_int (fun _ _ => rfl)) po_none (po_some pe_int)) (pg_sub (pv 3) pe_int set_list))) pss_nil)
     (pss_one (ps_ret (pe_callTy (callK_tuple_of K rfl) rfl T.no_tuple (by decide +kernel) (pa_cons (pv 3) pa_nil)))))))))), ?_⟩
   refine ⟨_, rfl, _, _, rfl, rfl, (by show (0 : Int) < 8; decide), ?_⟩
   have w0 := Int.emod_nonneg n (show (8 : Int) ≠ 0 by decide)
   have w1 := Int.emod_lt_of_pos n (show (0 : Int) < 8 by decide)
   dsimp only [gName]
   generalize n % 8 = w at w0 w1 ⊢
   refine ⟨_, rfl, t, _, rfl, .inr (SqT.of ht), fun l hl => ?_⟩
   have s1 := same_new (o := HO.lst (sevC x)) hl
   have h1 : (upd H l (.lst (sevC x))) l = some (.lst (sevC x)) := upd_same
   generalize upd H l (.lst (sevC x)) = H1 at s1 h1 ⊢
   dsimp only [gName]
   refine seq_split (t := tIfS _ _ _) (fun σ' H' => Same H H' ∧ σ' = [some (.ref t), some (.int n), some (.int w), some (.ref l)] ∧ ∃ y : Cho, GdC y ∧ H' l = some (.lst (sevC y))) ?_ (fun go => ?_)
   rotate_left
   · refine ⟨_, rfl, _, _, rfl, rfl, _, rfl, ite2 (fun h4 => ?_) (fun _ => go _ _ ⟨s1, rfl, x, g, h1⟩)⟩
     have h4 : w < 4 := of_decide_eq_true h4
     rcases (by omega : w = 0 ∨ w = 1 ∨ w = 2 ∨ w = 3) with rfl | rfl | rfl | rfl
     · exact ⟨_, rfl, _, rfl, _, _, rfl, rfl, l, _, _, _, rfl, rfl, SqL.of h1, rfl, x.2.2.2.a, rfl, _, rfl, _, rfl, _, _, rfl, rfl, l, _, _, 3, rfl, rfl, h1, rfl, go _ _ ⟨same_set hl s1, rfl, (x.1, x.2.1, x.2.2.1, ⟨!x.2.2.2.a, x.2.2.2.b, x.2.2.2.c, x.2.2.2.d⟩), g, upd_same⟩⟩
     · exact ⟨_, rfl, _, rfl, _, _, rfl, rfl, l, _, _, _, rfl, rfl, SqL.of h1, rfl, x.2.2.2.b, rfl, _, rfl, _, rfl, _, _, rfl, rfl, l, _, _, 4, rfl, rfl, h1, rfl, go _ _ ⟨same_set hl s1, rfl, (x.1, x.2.1, x.2.2.1, ⟨x.2.2.2.a, !x.2.2.2.b, x.2.2.2.c, x.2.2.2.d⟩), g, upd_same⟩⟩
     · exact ⟨_, rfl, _, rfl, _, _, rfl, rfl, l, _, _, _, rfl, rfl, SqL.of h1, rfl, x.2.2.2.c, rfl, _, rfl, _, rfl, _, _, rfl, rfl, l, _, _, 5, rfl, rfl, h1, rfl, go _ _ ⟨same_set hl s1, rfl, (x.1, x.2.1, x.2.2.1, ⟨x.2.2.2.a, x.2.2.2.b, !x.2.2.2.c, x.2.2.2.d⟩), g, upd_same⟩⟩
     · exact ⟨_, rfl, _, rfl, _, _, rfl, rfl, l, _, _, _, rfl, rfl, SqL.of h1, rfl, x.2.2.2.d, rfl, _, rfl, _, rfl, _, _, rfl, rfl, l, _, _, 6, rfl, rfl, h1, rfl, go _ _ ⟨same_set hl s1, rfl, (x.1, x.2.1, x.2.2.1, ⟨x.2.2.2.a, x.2.2.2.b, x.2.2.2.c, !x.2.2.2.d⟩), g, upd_same⟩⟩
   rintro σ' H2 ⟨s2, rfl, x2, g2, h2⟩
   have a1 := g2.p1; have a2 := g2.p3; have a3 := g2.q2; have a4 := g2.f2
   refine seq_split (t := tIfS _ _ _) (fun σ' H' => Same H H' ∧ σ' = [some (.ref t), some (.int n), some (.int w), some (.ref l)] ∧ ∃ y : Cho, GdC y ∧ H' l = some (.lst (sevC y))) ?_ (fun go => ?_)
   rotate_left
   · refine ⟨_, rfl, rfl, _, rfl, ite2 (fun _ => ?_) (fun _ => go _ _ ⟨s2, rfl, x2, g2, h2⟩)⟩
     have c1 := slice_to (z := x2.2.1) (n := 1) (by decide)
     exact ⟨_, rfl, l, _, _, _, rfl, rfl, SqL.of h2, rfl, _, rfl, _, rfl, Nat.le_trans a3 (by decide), _, rfl, l, _, _, 2, rfl, rfl, h2, rfl, go _ _ ⟨same_set hl s2, rfl, (x2.1, x2.2.1, Txt.slice x2.2.1 none (some 1), x2.2.2.2), ⟨g2.gp, g2.gq, first_sg g2.gq, a1, a2, a3, by show (Txt.slice x2.2.1 none (some 1)).length ≤ 2; omega⟩, upd_same⟩⟩
   rintro σ' H3 ⟨s3, rfl, x3, g3, h3⟩
   have b1 := g3.p1; have b2 := g3.p3; have b3 := g3.q2; have b4 := g3.f2
   refine seq_split (t := tIfS _ _ _) (fun σ' H' => Same H H' ∧ σ' = [some (.ref t), some (.int n), some (.int w), some (.ref l)] ∧ ∃ y : Cho, GdC y ∧ H' l = some (.lst (sevC y))) ?_ (fun go => ?_)
   rotate_left
   · refine ⟨_, rfl, rfl, _, rfl, ite2 (fun _ => ?_) (fun _ => go _ _ ⟨s3, rfl, x3, g3, h3⟩)⟩
     have r1 := rev_len x3.1; have r2 := rev_len x3.2.1
     refine ⟨_, rfl, l, _, _, _, rfl, rfl, SqL.of h3, rfl, _, rfl, _, rfl, rfl, Nat.le_trans b2 (by decide), _, rfl, l, _, _, 0, rfl, rfl, h3, rfl, ?_⟩
     have s4 : Same H (upd H3 l (.lst (sevC (revS x3.1, x3.2)))) := same_set hl s3
     have h4 : (upd H3 l (.lst (sevC (revS x3.1, x3.2)))) l = some (.lst (sevC (revS x3.1, x3.2))) := upd_same
     rw [show (sevC x3).set 0 (V.str (revS x3.1)) = sevC (revS x3.1, x3.2) from rfl]
     generalize upd H3 l (.lst (sevC (revS x3.1, x3.2))) = H4 at s4 h4 ⊢
     exact ⟨_, rfl, l, _, _, _, rfl, rfl, SqL.of h4, rfl, _, rfl, _, rfl, rfl, Nat.le_trans b3 (by decide), _, rfl, l, _, _, 1, rfl, rfl, h4, rfl, go _ _ ⟨same_set hl s4, rfl, (revS x3.1, revS x3.2.1, x3.2.2), ⟨rev_sg g3.gp, rev_sg g3.gq, g3.gf, by show 1 ≤ (revS x3.1).length; omega, by show (revS x3.1).length ≤ 3; omega, by show (revS x3.2.1).length ≤ 2; omega, b4⟩, upd_same⟩⟩
   rintro σ' H5 ⟨s5, rfl, x5, g5, h5⟩
   have d1 := g5.p1; have d2 := g5.p3; have d3 := g5.q2; have d4 := g5.f2
   refine seq_split (t := tIfS _ _ _) (fun σ' H' => Same H H' ∧ σ' = [some (.ref t), some (.int n), some (.int w), some (.ref l)] ∧ ∃ y : Cho, GdC y ∧ H' l = some (.lst (sevC y))) ?_ (fun go => ?_)
   rotate_left
   · refine ⟨_, rfl, rfl, _, rfl, ite2 (fun _ => ?_) (fun _ => go _ _ ⟨s5, rfl, x5, g5, h5⟩)⟩
     have c1 := slice_to (z := x5.1) (n := 1) (by decide)
     exact ⟨_, rfl, l, _, _, _, rfl, rfl, SqL.of h5, rfl, _, rfl, _, rfl, Nat.le_trans d2 (by decide), _, rfl, l, _, _, 1, rfl, rfl, h5, rfl, go _ _ ⟨same_set hl s5, rfl, (x5.1, Txt.slice x5.1 none (some 1), x5.2.2), ⟨g5.gp, first_sg g5.gp, g5.gf, d1, d2, by show (Txt.slice x5.1 none (some 1)).length ≤ 2; omega, d4⟩, upd_same⟩⟩
   rintro σ' H6 ⟨s6, rfl, x6, g6, h6⟩
   exact ⟨_, rfl, l, _, rfl, .inl ⟨SqL.of h6, fun t2 ht2 => k t2 x6 _ g6 upd_same (s6.trans (same_new ht2))⟩⟩
def sp__law_tolds (K : PySem.W.Frag) : Sp := fun vs H Q _ => ∃ (a : Addr) (ns : List Int) (m : Int), vs = [.ref a, .int m] ∧ SqL K H a (ns.map V.int) ∧ ns.length ≤ 100 ∧ 0 ≤ m ∧ m ≤ 100 ∧ ∀ (l : Addr) (xs : List V) (cs : List Cho) H', H l = none → H' l = some (.lst xs) → Tps H' xs cs → (∀ x ∈ cs, GdC x) → (cs.length : Int) ≤ m → Same H H' → Q (.ref l) H'
theorem ok__law_tolds : FnOk P w K mg base CX0 4 f__law_tolds fd__law_tolds ["_law_cells", "_law_many"] (sp__law_tolds K) := by
 have G__law_cell_at : FnOk P w K mg base CX0 1 f__law_cell_at fd__law_cell_at ["_law_script", "_law_k"] (sp__law_cell_at K) := ok__law_cell_at T
 have G__law_drawn : FnOk P w K mg base CX0 2 f__law_drawn fd__law_drawn ["_law_cell", "_law_many"] sp__law_drawn := ok__law_drawn T
 have G__law_near : FnOk P w K mg base CX0 1 f__law_near fd__law_near ["_law_told_here", "_law_x"] (sp__law_near K) := ok__law_near T
 have G__law_told : FnOk P w K mg base CX0 3 f__law_told fd__law_told ["_law_cell"] sp__law_told := ok__law_told T
 refine T.F__law_tolds.ok sc__law_tolds (fun vs H Q E h => ?_) (fun cdv A outer s H vs Q E hr h => ?_)
 · obtain ⟨a, ns, m, rfl, _⟩ := h; rfl
 · have hu := hu_of hr
   have hu0 := hr.units0
   obtain ⟨a, ns, m, rfl, hS, hns, m0, m1, k⟩ := h
   refine ⟨_, (pss_cons (ps_set (i := 2) sc__law_tolds.nd rfl (by first | exact Or.inl rfl | exact Or.inr rfl) (pe_lst pa_nil))
     (pss_cons (ps_for PassesOwn.never rfl (pi_range1 rfl T.no_range (pa_cons (pv 1) pa_nil)) (pg_name (i := 3) sc__law_tolds.nd rfl (by first | exact Or.inl rfl | exact Or.inr rfl))
     (pss_cons (ps_set (i := 4) sc__law_tolds.nd rfl (by first | exact Or.inl rfl | exact Or.inr rfl) (pe_op op_add (pe_call (k := 1) G__law_cell_at (hr.mono (by decide)) rfl T.g__law_cell_at T.F__law_cell_at.kp T.b__law_cell_at .nil pass0 (pa_cons (pv 0) (pa_cons (pe_op op_mod (pv 3) (pe_callB (call_max2 rfl) rfl T.no_max (by decide +kernel) (pa_cons pe_int (pa_cons (pe_callB (callK_len_seq K rfl) rfl T.no_len (by decide +kernel) (pa_cons (pv 0) pa_nil)) pa_nil)))) pa_nil))) (pe_op op_mul pe_int (pv 3))))
     (pss_cons (ps_set (i := 5) sc__law_tolds.nd rfl (by first | exact Or.inl rfl | exact Or.inr rfl) (pe_call (k := 2) G__law_drawn (hr.mono (by decide)) rfl T.g__law_drawn T.F__law_drawn.kp T.b__law_drawn .nil pass0 (pa_cons (pv 4) (pa_cons pe_int pa_nil))))
     (pss_one (ps_if (PW.pt (pw_or (pt_cmpR (op_eqL K rfl hu0) (pv 2) (pe_lst pa_nil) (nomark _)) (pw_or1 (pt_cmpR op_eq (pe_op op_mod (pe_ix (ixK_list K rfl) (pv 5) pe_int (fun _ _ => rfl)) pe_int) pe_int (nomark _))))) (pss_one (ps_expr (peK_bm K rfl PySem.F.plainAttrs_list PySem.F.slot_list_append PySem.F.type_list_append mt_append (pv 2) (pa_cons (pe_call (k := 3) G__law_told (hr.mono (by decide)) rfl T.g__law_told T.F__law_told.kp T.b__law_told .nil pass0 (pa_cons (pe_op op_fdiv (pv 4) pe_int) pa_nil)) pa_nil)))) (pss_one (ps_expr (peK_bm K rfl PySem.F.plainAttrs_list PySem.F.slot_list_append PySem.F.type_list_append mt_append (pv 2) (pa_cons (pe_call (k := 1) G__law_near (hr.mono (by decide)) rfl T.g__law_near T.F__law_near.kp T.b__law_near .nil pass0 (pa_cons (pe_ix (ixK_list K rfl) (pv 2) (pe_op op_mod (pe_ix (ixK_list K rfl) (pv 5) pe_int (fun _ _ => rfl)) (pe_callB (callK_len_seq K rfl) rfl T.no_len (by decide +kernel) (pa_cons (pv 2) pa_nil))) (fun _ _ => rfl)) (pa_cons (pe_op op_fdiv (pe_ix (ixK_list K rfl) (pv 5) pe_int (fun _ _ => rfl)) pe_int) pa_nil))) pa_nil)))))))))
     (pss_one (ps_ret (pv 2))))), ?_⟩
   refine ⟨by decide, fun l hl => ?_⟩
   have s1 := same_new (o := HO.lst []) hl
   refine ⟨_, rfl, _, rfl, by omega, by omega, ?_⟩
   refine for_range (fun i σ H2 => Same H H2 ∧ ∃ (xs : List V) (cs : List Cho) (v1 v2 v3 : Option V), σ = [some (.ref a), some (.int m), some (.ref l), v1, v2, v3] ∧ H2 l = some (.lst xs) ∧ Tps H2 xs cs ∧ (∀ x ∈ cs, GdC x) ∧ cs.length ≤ i ∧ V.ref l ∉ xs) ⟨s1, [], [], _, _, _, rfl, upd_same, .nil, (fun x q => nomatch q), Nat.le_refl _, by simp⟩ ?_ ?_
   · rintro i σ H2 hi ⟨s2, xs, cs, v1, v2, v3, rfl, h2, tp, gd, hc, hn⟩
     have hi : (i : Int) < m := by omega
     have hS2 := s2.seq hS
     refine ⟨_, rfl, _, rfl, _, rfl, a, _, rfl, .inl hS2, _, _, rfl, _, _, rfl, rfl, ?_, ?_⟩
     · show (0 : Int) < (if ((ns.map V.int).length : Int) > 1 then ((ns.map V.int).length : Int) else 1)
       split <;> omega
     refine ⟨a, ns, _, rfl, hS2, Int.emod_nonneg _ ?_, fun c => ?_⟩
     · show (if ((ns.map V.int).length : Int) > 1 then ((ns.map V.int).length : Int) else 1) ≠ 0
       split <;> omega
     refine ⟨_, rfl, _, _, rfl, rfl, .inl ⟨by decide, by decide⟩, _, _, rfl, rfl, ?_⟩
     refine ⟨_, rfl, _, _, rfl, by decide, by decide, fun lx ds H3 hdl hd0 hlx h3 s3 => ?_⟩
     have hdl : ds.length = 2 := hdl
     obtain ⟨e1, e2, rfl⟩ : ∃ e1 e2, ds = [e1, e2] := by
       cases ds with
       | nil => cases hdl
       | cons a l => cases l with
         | nil => cases hdl
         | cons b l => cases l with
           | nil => exact ⟨a, b, rfl⟩
           | cons c l => simp at hdl
     have h23 := s3 _ _ h2
     have tp3 := Tps.mono s3 tp
     have hxl := tp3.length
     have s23 := s2.trans s3
     have room : xs.length < sizeLine := Nat.lt_of_le_of_lt (show xs.length ≤ 100 by omega) (by decide)
     have fin : ∀ (tt : Addr) (x : Cho) (H4 : Hp), Same H3 H4 → H4 tt = some (.tup (sevC x)) → GdC x → ∃ l' xs' y, V.ref l = .ref l' ∧ [V.ref tt] = [y] ∧ H4 l' = some (.lst xs') ∧ xs'.length < sizeLine ∧ (Same H (upd H4 l' (.lst (xs' ++ [y]))) ∧ ∃ (xs : List V) (cs : List Cho) (v1 v2 v3 : Option V), [some (.ref a), some (.int m), some (.ref l), some (.int (0 + (i : Int))), some (.int (c + 97 * (0 + (i : Int)))), some (.ref lx)] = [some (.ref a), some (.int m), some (.ref l), v1, v2, v3] ∧ (upd H4 l' (.lst (xs' ++ [y]))) l = some (.lst xs) ∧ Tps (upd H4 l' (.lst (xs' ++ [y]))) xs cs ∧ (∀ x ∈ cs, GdC x) ∧ cs.length ≤ i + 1 ∧ V.ref l ∉ xs) := by
       intro tt x H4 s4 ht gx
       have h24 := s4 _ _ h23
       have ntl : tt ≠ l := fun q => by rw [q, h24] at ht; cases ht
       refine ⟨l, xs, .ref tt, rfl, rfl, h24, room, same_set hl (s23.trans s4), xs ++ [.ref tt], cs ++ [x], _, _, _, rfl, upd_same, ?_, ?_, ?_, ?_⟩
       · refine paired_app (paired_but hn (Tps.mono s4 tp3)) (.cons ⟨tt, rfl, (upd_ne ntl).trans ht⟩ .nil)
       · intro z hz
         rcases List.mem_append.mp hz with q | q
         · exact gd z q
         · rw [List.mem_singleton.mp q]; exact gx
       · rw [List.length_append]; show cs.length + 1 ≤ _; omega
       · intro q
         rcases List.mem_append.mp q with q | q
         · exact hn q
         · exact ntl (V.ref.inj (List.mem_singleton.mp q)).symm
     refine ⟨_, rfl, by decide, fun e he => ?_⟩
     have s4 := same_new (o := HO.lst []) he
     have h24 := s4 _ _ h23
     have h34 := s4 _ _ h3
     have tp4 := Tps.mono s4 tp3
     refine ⟨l, e, xs, rfl, rfl, SqL.of h24, SqL.of upd_same, ?_⟩
     generalize upd H3 e (.lst []) = H4 at s4 h24 h34 tp4 ⊢
     refine ⟨_, rfl, ite2 (fun _ => iteT ?_) (fun hne => ?_)⟩
     · exact ⟨_, rfl, .inl ⟨rfl, _, SqL.of h24⟩, _, rfl, _, _, rfl, rfl, ⟨by decide, by decide⟩, _, rfl, fun t p q f b1 b2 b3 b4 H5 g ht h5 s5 => fin t (p, q, f, ⟨b1, b2, b3, b4⟩) H5 (s4.trans s5) h5 g⟩
     refine ⟨_, rfl, lx, _, _, _, rfl, rfl, SqL.of h34, rfl, _, _, rfl, rfl, (by show (0 : Int) < 3; decide), rfl, _, rfl, ite2 (fun _ => ?_) (fun _ => ?_)⟩
     · exact ⟨_, rfl, .inl ⟨rfl, _, SqL.of h24⟩, _, rfl, _, _, rfl, rfl, ⟨by decide, by decide⟩, _, rfl, fun t p q f b1 b2 b3 b4 H5 g ht h5 s5 => fin t (p, q, f, ⟨b1, b2, b3, b4⟩) H5 (s4.trans s5) h5 g⟩
     · have pos : (0 : Int) < xs.length := by
         cases xs with
         | nil => exact absurd rfl hne
         | cons x xs => rw [List.length_cons]; omega
       have j0 := Int.emod_nonneg e2 (show (xs.length : Int) ≠ 0 by omega)
       have j1 := Int.emod_lt_of_pos e2 pos
       obtain ⟨j, ej⟩ := Int.eq_ofNat_of_zero_le j0
       have hjl : j < xs.length := by omega
       obtain ⟨x, hx, tt, ett, htt⟩ := paired_get tp4 j _ (List.getElem?_eq_getElem hjl)
       have hat : atI xs (e2 % (xs.length : Int)) = some (.ref tt) := by
         rw [ej]
         exact atI_nat (by rw [List.getElem?_eq_getElem hjl, ett])
       exact ⟨_, rfl, .inl ⟨rfl, _, SqL.of h24⟩, _, rfl, _, rfl, lx, _, _, _, rfl, rfl, SqL.of h34, rfl, _, rfl, l, _, rfl, .inl (SqL.of h24), _, _, rfl, rfl, pos, l, _, _, .ref tt, rfl, rfl, SqL.of h24, hat, _, rfl, lx, _, _, _, rfl, rfl, SqL.of h34, rfl, _, _, rfl, rfl, ⟨by decide, by decide⟩, tt, _, x, rfl, htt, gd x (List.mem_of_getElem? hx), fun t2 y H5 gy h5 s5 => fin t2 y H5 (s4.trans s5) h5 gy⟩
   · rintro σ H2 ⟨s2, xs, cs, v1, v2, v3, rfl, h2, tp, gd, hc, hn⟩
     exact ⟨_, rfl, k l xs cs H2 hl h2 tp gd (by omega) s2⟩
def sp__law_menu (K : PySem.W.Frag) : Sp := fun vs H Q _ => ∃ (l : Addr) (xs : List V) (cs : List Cho), vs = [.ref l] ∧ H l = some (.lst xs) ∧ Tps H xs cs ∧ (∀ x ∈ cs, GdC x) ∧ cs.length ≤ 101 ∧ ∀ z : Str, cellOk z → 1 ≤ z.length → z.length ≤ 1000 → Q (.str z) H
theorem ok__law_menu : FnOk P w K mg base CX0 1 f__law_menu fd__law_menu ["_law_tolds_here"] (sp__law_menu K) := by
 refine T.F__law_menu.ok sc__law_menu (fun vs H Q E h => ?_) (fun cdv A outer s H vs Q E hr h => ?_)
 · obtain ⟨l, xs, cs, rfl, _⟩ := h; rfl
 · have hu := hu_of hr
   have hu0 := hr.units0
   obtain ⟨l, xs, cs, rfl, hl, tp, gd, hc, k⟩ := h
   have hxl := tp.length
   refine ⟨_, (pss_cons (ps_set (i := 1) sc__law_menu.nd rfl (by first | exact Or.inl rfl | exact Or.inr rfl) pe_str)
     (pss_cons (ps_for PassesOwn.never rfl (piK_list K rfl (pv 0)) (pg_name (i := 2) sc__law_menu.nd rfl (by first | exact Or.inl rfl | exact Or.inr rfl))
     (pss_one (ps_for PassesOwn.never rfl (pi_str (pe_op op_add_str (pe_op op_add_str (pe_ix (ixK_tup K rfl) (pv 2) pe_int (fun _ _ => rfl)) (pe_ix (ixK_tup K rfl) (pv 2) pe_int (fun _ _ => rfl))) (pe_ix (ixK_tup K rfl) (pv 2) pe_int (fun _ _ => rfl)))) (pg_name (i := 3) sc__law_menu.nd rfl (by first | exact Or.inl rfl | exact Or.inr rfl))
     (pss_one (ps_if (pt_cmpR op_lt (peK_bm K rfl PySem.F.plainAttrs_str PySem.F.slot_str_count PySem.F.type_str_count mt_count (pv 1) (pa_cons (pv 3) pa_nil)) pe_int (nomark _)) (pss_one (ps_set (i := 1) sc__law_menu.nd rfl (by first | exact Or.inl rfl | exact Or.inr rfl) (pe_op op_add_str (pv 1) (pv 3)))) pss_nil)))))
     (pss_one (ps_ret (pv 1))))), ?_⟩
   refine ⟨_, rfl, l, rfl, ⟨_, SqL.of hl⟩, ?_⟩
   have m0 : cellOk (Str.ofString "\n\nab \n") := (by decide +kernel : ∀ c ∈ (Str.ofString "\n\nab \n").cps.toList, c = 10 ∨ Pn c)
   have m1 : (Str.ofString "\n\nab \n").length = 6 := by decide +kernel
   refine for_list (K := K) (a := l) (xs := xs) (fun i σ H2 => H2 = H ∧ ∃ (z : Str) (v1 v2 : Option V), σ = [some (.ref l), some (.str z), v1, v2] ∧ cellOk z ∧ 1 ≤ z.length ∧ z.length ≤ 6 + 7 * i) ⟨rfl, _, _, _, rfl, m0, by omega, by omega⟩ (fun i σ H2 _ q => by rw [q.1]; exact SqL.of hl) ?_ ?_
   · rintro i e σ H2 hi ⟨rfl, z, v1, v2, rfl, z1, z2, z3⟩
     obtain ⟨x, hx, t, rfl, ht⟩ := paired_get tp i e hi
     have hil : i < xs.length := (List.getElem?_eq_some_iff.mp hi).1
     have g := gd x (List.mem_of_getElem? hx)
     have hp3 := g.p3; have hq2 := g.q2; have hf2 := g.f2
     have hS : SqT K H2 t (sevC x) := SqT.of ht
     have sl1 := app_len x.1 x.2.1
     have sl2 := app_len (x.1 ++ x.2.1) x.2.2.1
     refine ⟨_, rfl, t, _, _, _, rfl, rfl, hS, rfl, _, rfl, t, _, _, _, rfl, rfl, hS, rfl, _, _, rfl, rfl, Nat.le_trans (show x.1.length + x.2.1.length ≤ 5 by omega) (by decide), _, rfl, t, _, _, _, rfl, rfl, hS, rfl, _, _, rfl, rfl, Nat.le_trans (show (x.1 ++ x.2.1).length + x.2.2.1.length ≤ 7 by omega) (by decide), _, rfl, ?_⟩
     have szl : ((x.1 ++ x.2.1) ++ x.2.2.1).cps.toList.length ≤ 7 := by
       rw [Array.length_toList]; show ((x.1 ++ x.2.1) ++ x.2.2.1).length ≤ 7; omega
     refine for_str (z := (x.1 ++ x.2.1) ++ x.2.2.1) (fun j σ H3 => H3 = H2 ∧ ∃ (z : Str) (v2 : Option V), σ = [some (.ref l), some (.str z), some (.ref t), v2] ∧ cellOk z ∧ 1 ≤ z.length ∧ z.length ≤ 6 + 7 * i + j) ⟨rfl, z, _, rfl, z1, z2, by omega⟩ ?_ ?_
     · rintro j c σ H3 hj ⟨rfl, y, v3, rfl, y1, y2, y3⟩
       have hjl := (List.getElem?_eq_some_iff.mp hj).1
       have hc : c = 10 ∨ Pn c := by
         have hm := List.mem_of_getElem? hj
         rw [app_list, app_list] at hm
         rcases List.mem_append.mp hm with hm | hm
         · rcases List.mem_append.mp hm with hm | hm
           · exact .inr (g.gp.pr c hm)
           · exact .inr (g.gq.pr c hm)
         · exact .inr (g.gf.pr c hm)
       refine ⟨_, rfl, rfl, _, rfl, _, _, rfl, rfl, _, _, rfl, rfl, _, rfl, ite2 (fun _ => ?_) (fun _ => ⟨rfl, y, _, rfl, y1, y2, by omega⟩)⟩
       have al := app_len y (sg c)
       have c1 : (sg c).length = 1 := rfl
       refine ⟨_, rfl, _, rfl, _, _, rfl, rfl, Nat.le_trans (show y.length + (sg c).length ≤ 1000 by omega) (by decide), rfl, y ++ sg c, _, rfl, ?_, by omega, by omega⟩
       intro d hd
       rw [app_list] at hd
       rcases List.mem_append.mp hd with q | q
       · exact y1 d q
       · rw [List.mem_singleton.mp (show d ∈ [c] from q)]; exact hc
     · rintro σ H3 ⟨rfl, y, v3, rfl, y1, y2, y3⟩
       exact ⟨rfl, y, _, _, rfl, y1, y2, by omega⟩
   · rintro σ H2 ⟨rfl, z, v1, v2, rfl, z1, z2, z3⟩
     exact ⟨_, rfl, k z z1 z2 (by omega)⟩
def sp__law_text (K : PySem.W.Frag) : Sp := fun vs H Q _ => ∃ (c m : Int) (l : Addr) (xs : List V) (cs : List Cho), vs = [.int c, .ref l, .int m] ∧ H l = some (.lst xs) ∧ Tps H xs cs ∧ (∀ x ∈ cs, GdC x) ∧ cs.length ≤ 101 ∧ 0 ≤ m ∧ m ≤ 100 ∧ ∀ (z : Str) H', cellOk z → (z.length : Int) ≤ m + 1 → Same H H' → Q (.str z) H'
theorem ok__law_text : FnOk P w K mg base CX0 3 f__law_text fd__law_text ["_law_cell", "_law_tolds_here", "_law_most"] (sp__law_text K) := by
 have G__law_drawn : FnOk P w K mg base CX0 2 f__law_drawn fd__law_drawn ["_law_cell", "_law_many"] sp__law_drawn := ok__law_drawn T
 have G__law_menu : FnOk P w K mg base CX0 1 f__law_menu fd__law_menu ["_law_tolds_here"] (sp__law_menu K) := ok__law_menu T
 refine T.F__law_text.ok sc__law_text (fun vs H Q E h => ?_) (fun cdv A outer s H vs Q E hr h => ?_)
 · obtain ⟨c, m, l, xs, cs, rfl, _⟩ := h; rfl
 · have hu := hu_of hr
   have hu0 := hr.units0
   obtain ⟨c, m, l, xs, cs, rfl, hl, tp, gd, hc, m0, m1, k⟩ := h
   refine ⟨_, (pss_cons (ps_set (i := 3) sc__law_text.nd rfl (by first | exact Or.inl rfl | exact Or.inr rfl) (pe_call (k := 2) G__law_drawn (hr.mono (by decide)) rfl T.g__law_drawn T.F__law_drawn.kp T.b__law_drawn .nil pass0 (pa_cons (pv 0) (pa_cons (pe_op op_add (pv 2) pe_int) pa_nil))))
     (pss_cons (ps_set (i := 4) sc__law_text.nd rfl (by first | exact Or.inl rfl | exact Or.inr rfl) (pe_call (k := 1) G__law_menu (hr.mono (by decide)) rfl T.g__law_menu T.F__law_menu.kp T.b__law_menu .nil pass0 (pa_cons (pv 1) pa_nil)))
     (pss_cons (ps_set (i := 5) sc__law_text.nd rfl (by first | exact Or.inl rfl | exact Or.inr rfl) (peK_bm K rfl PySem.F.plainAttrs_str PySem.F.slot_str_join PySem.F.type_str_join (mtK_join K rfl) pe_str (pa_cons (pe_comp rfl (show CompScope ["_law_cell", "_law_tolds_here", "_law_most", "_law_xs", "_law_menu_here", "_law_text_here"] (defScope s__law_text) ["_law_x", "_law_menu_here"] 1 [4] _ from ⟨rfl, by decide +kernel, by decide +kernel, by decide +kernel, by decide +kernel, rfl, rfl, by decide +kernel⟩) (piK_list K rfl (pe_slice (slK_list K rfl) (pv 3) (po_some pe_int) (po_some (pe_op op_add pe_int (pe_op op_mod (pe_ix (ixK_list K rfl) (pv 3) pe_int (fun _ _ => rfl)) (pe_op op_add (pv 2) pe_int)))))) (fun _ _ _ _ => (pg_name (i := 0) (show (["_law_x", "_law_menu_here"] : List Str).Nodup by decide +kernel) rfl (by first | exact Or.inl rfl | exact Or.inr rfl))) (fun _ _ _ _ => pif_nil) (fun _ _ _ _ => (pe_ix ix_str (pv 1) (pe_op op_mod (pv 0) (pe_callB call_len_str rfl T.no_len (by decide +kernel) (pa_cons (pv 1) pa_nil))) (fun _ _ => rfl)))) pa_nil)))
     (pss_cons (ps_if (pt_cmpR op_gt (pe_op op_mod (pe_ix (ixK_list K rfl) (pv 3) pe_int (fun _ _ => rfl)) pe_int) pe_int (nomark _)) (pss_one (ps_set (i := 5) sc__law_text.nd rfl (by first | exact Or.inl rfl | exact Or.inr rfl) (pe_op op_add_str (pv 5) pe_str))) pss_nil)
     (pss_one (ps_ret (pv 5))))))), ?_⟩
   refine ⟨_, rfl, _, rfl, _, _, rfl, rfl, _, _, rfl, by omega, by omega, fun lx ds H1 hdl hd0 hlx h1 s1 => ?_⟩
   refine ⟨_, rfl, l, xs, cs, rfl, s1 _ _ hl, Tps.mono s1 tp, gd, hc, fun mz y1 y2 y3 => ?_⟩
   have hdl : ds.length = (m + 2).toNat := hdl
   obtain ⟨e0, e1, ds', rfl⟩ : ∃ e0 e1 ds', ds = e0 :: e1 :: ds' := by
     cases ds with
     | nil => simp at hdl; omega
     | cons a l => cases l with
       | nil => simp at hdl; omega
       | cons b l => exact ⟨a, b, l, rfl⟩
   have at0 : atI ((e0 :: e1 :: ds').map V.int) 0 = some (.int e0) := (show atI _ ((0 : Nat) : Int) = _ from atI_nat rfl)
   have at1 : atI ((e0 :: e1 :: ds').map V.int) 1 = some (.int e1) := (show atI _ ((1 : Nat) : Int) = _ from atI_nat rfl)
   have hml : mz.length ≤ sizeLine := Nat.le_trans y3 (by decide)
   refine ⟨rfl, _, rfl, _, rfl, _, rfl, lx, _, _, _, rfl, rfl, SqL.of h1, at0, _, rfl, _, _, rfl, rfl, _, _, rfl, rfl, (by show 0 < m + 1; omega), _, _, rfl, rfl, _, rfl, lx, _, rfl, SqL.of h1, fun p hp => ?_⟩
   generalize hcv : cutV ((e0 :: e1 :: ds').map V.int) (some 2) _ = cv at hp ⊢
   have hcl : (cv.length : Int) ≤ m := by
     rw [← hcv]
     have q := cut_from2 (xs := (e0 :: e1 :: ds').map V.int) (hi := some (2 + e0 % (m + 1))) (by rw [List.length_map, List.length_cons, List.length_cons]; omega)
     rw [List.length_map, hdl] at q
     omega
   have hci : ∀ v ∈ cv, ∃ n : Int, v = .int n := fun v hv => by
     rw [← hcv] at hv
     obtain ⟨n, _, rfl⟩ := List.mem_map.mp (List.mem_of_mem_drop (List.mem_of_mem_take hv))
     exact ⟨n, rfl⟩
   have s2 := same_new (o := HO.lst cv) hp
   have h2 : (upd H1 p (.lst cv)) p = some (.lst cv) := upd_same
   have h12 := s2 _ _ h1
   have s12 := s1.trans s2
   generalize upd H1 p (.lst cv) = H2 at s2 h2 h12 s12 ⊢
   refine ⟨p, rfl, ⟨_, SqL.of h2⟩, fun D hD => ?_⟩
   refine comp_list (K := K) (a := p) (xs := cv) (fun i ys τ H3 => (∃ v, τ = [v, some (.str mz)]) ∧ Same H2 H3 ∧ H3 D = some (.lst ys) ∧ ∃ zs : List Str, ys = zs.map V.str ∧ zs.length = i ∧ ∀ z ∈ zs, cellOk z ∧ z.length ≤ 1) ⟨⟨_, rfl⟩, same_new hD, upd_same, [], rfl, rfl, fun z q => nomatch q⟩ (fun i ys τ H3 _ q => ⟨SqL.of (q.2.1 _ _ h2), q.2.2.1⟩) ?_ ?_
   · rintro i e ys τ H3 hi ⟨⟨v, rfl⟩, s3, hD3, zs, rfl, hzl, hzs⟩
     have hil : i < cv.length := (List.getElem?_eq_some_iff.mp hi).1
     obtain ⟨n, rfl⟩ := hci e (List.mem_of_getElem? hi)
     have hlen : mz.cps.toList.length = mz.length := by rw [Array.length_toList]; rfl
     obtain ⟨d, ed, hd⟩ := at_int (xs := mz.cps.toList) (Int.emod_nonneg n (show (mz.length : Int) ≠ 0 by omega)) (by rw [hlen]; exact Int.emod_lt_of_pos n (by omega))
     refine gyes ?_
     refine ⟨_, rfl, _, rfl, _, rfl, mz, rfl, hml, _, _, rfl, rfl, (by show (0 : Int) < (mz.length : Int); omega), mz, _, d, rfl, rfl, hml, ed, hD3, ?_, ⟨_, rfl⟩, same_set hD s3, upd_same, zs ++ [sg d], ?_, ?_, ?_⟩
     · rw [List.length_map]; exact Nat.lt_of_le_of_lt (show zs.length ≤ 102 by omega) (by decide)
     · rw [List.map_append]; rfl
     · rw [List.length_append, hzl]; rfl
     · intro z hz
       rcases List.mem_append.mp hz with q | q
       · exact hzs z q
       · rw [List.mem_singleton.mp q]
         exact ⟨fun b hb => by rw [List.mem_singleton.mp (show b ∈ [d] from hb)]; exact y1 d hd, Nat.le_refl _⟩
   rintro ys τ H3 ⟨⟨v, rfl⟩, s3, hD3, zs, rfl, hzl, hzs⟩
   have sl := sum_len (zs := zs) (m := 1) fun z hz => (hzs z hz).2
   have fl := fm_len (zs := zs) (m := 1) fun z hz => (hzs z hz).2
   have jl := join_list zs
   have jn : ((Txt.join (Str.ofString "") zs).length : Int) ≤ m := by
     have := congrArg List.length jl
     rw [Array.length_toList] at this
     have : (Txt.join (Str.ofString "") zs).length = _ := this
     omega
   have jo : cellOk (Txt.join (Str.ofString "") zs) := fun b hb => by
     rw [jl] at hb
     obtain ⟨z, hz, hb⟩ := List.mem_flatMap.mp hb
     exact (hzs z hz).1 b hb
   refine ⟨_, D, zs, rfl, rfl, SqL.of hD3, by omega, ?_⟩
   have h13 := s3 _ _ h12
   have s13 := s12.trans s3
   refine ⟨_, rfl, lx, _, _, _, rfl, rfl, SqL.of h13, at1, _, _, rfl, rfl, (by show (0 : Int) < 3; decide), _, _, rfl, rfl, _, rfl, ite2 (fun _ => ?_) (fun _ => ⟨_, rfl, k _ H3 jo (by omega) s13⟩)⟩
   have nl1 : (Str.ofString "\n").length = 1 := by decide +kernel
   have al := app_len (Txt.join (Str.ofString "") zs) (Str.ofString "\n")
   refine ⟨_, rfl, _, _, rfl, rfl, Nat.le_trans (show (Txt.join (Str.ofString "") zs).length + (Str.ofString "\n").length ≤ 200 by omega) (by decide), _, rfl, k _ H3 (fun b hb => ?_) (by omega) s13⟩
   rw [app_list] at hb
   rcases List.mem_append.mp hb with q | q
   · exact jo b q
   · rw [lnl] at q; exact .inl (List.mem_singleton.mp q)
def sp__law_no_text (K : PySem.W.Frag) : Sp := fun vs H Q _ => ∃ (z : Str) (a : Addr) (ns : List Int) (c : Int), vs = [.str z, .ref a, .int c] ∧ H a = some (.lst (ns.map V.int)) ∧ 6 ≤ ns.length ∧ z.length ≤ 9 ∧ ∀ v H', Knd H' v → (∀ z, v = .str z → z.length ≤ 10000) → isT v = false → Same H H' → Q v H'
theorem ok__law_no_text : FnOk P w K mg base CX0 1 f__law_no_text fd__law_no_text ["_law_text_here", "_law_xs", "_law_cell"] (sp__law_no_text K) := by
 refine T.F__law_no_text.ok sc__law_no_text (fun vs H Q E h => ?_) (fun cdv A outer s H vs Q E hr h => ?_)
 · obtain ⟨z, a, ns, c, rfl, _⟩ := h; rfl
 · have hu := hu_of hr
   have hu0 := hr.units0
   obtain ⟨z, a, ns, c, rfl, ha, hn, hz, k⟩ := h
   obtain ⟨n0, n1, n2, ns', rfl⟩ : ∃ n0 n1 n2 ns', ns = n0 :: n1 :: n2 :: ns' := by
     match ns, hn with
     | n0 :: n1 :: n2 :: l, _ => exact ⟨n0, n1, n2, l, rfl⟩
   have at0 : atI ((n0 :: n1 :: n2 :: ns').map V.int) 0 = some (.int n0) := (show atI _ ((0 : Nat) : Int) = _ from atI_nat rfl)
   have at2 : atI ((n0 :: n1 :: n2 :: ns').map V.int) 2 = some (.int n2) := (show atI _ ((2 : Nat) : Int) = _ from atI_nat rfl)
   have hzl : z.length ≤ sizeLine := Nat.le_trans hz (by decide)
   have sz : 100000 ≤ sizeLine := by decide
   have b0 := Int.emod_nonneg n0 (show ((z.length : Int) + 1) ≠ 0 by omega)
   have b1 := Int.emod_lt_of_pos n0 (show (0 : Int) < (z.length : Int) + 1 by omega)
   have q2 : (Str.ofString "\t").length = 1 := by decide +kernel
   have qa : (Str.ofString "a").length = 1 := by decide +kernel
   have qb : (Str.ofString "ab\n").length = 3 := by decide +kernel
   have l1 := slen (z := z) (n := n0 % ((z.length : Int) + 1)) (m := 9) b0 (by omega)
   have l2 := slice_from (z := z) (n := n0 % ((z.length : Int) + 1)) b0
   have a2 := app_len (Txt.slice z none (some (n0 % ((z.length : Int) + 1)))) (Str.ofString "\t")
   have a4 := app_len (Txt.slice z none (some (n0 % ((z.length : Int) + 1))) ++ Str.ofString "\t") (Txt.slice z (some (n0 % ((z.length : Int) + 1))) none)
   have tA := isT_tab (a := Txt.slice z none (some (n0 % ((z.length : Int) + 1)))) (b := Txt.slice z (some (n0 % ((z.length : Int) + 1))) none)
   refine ⟨_, (pss_cons (ps_set (i := 3) sc__law_no_text.nd rfl (by first | exact Or.inl rfl | exact Or.inr rfl) (pe_op op_mod (pe_ix (ixK_list K rfl) (pv 1) pe_int (fun _ _ => rfl)) (pe_op op_add (pe_callB call_len_str rfl T.no_len (by decide +kernel) (pa_cons (pv 0) pa_nil)) pe_int)))
     (pss_cons (ps_set (i := 4) sc__law_no_text.nd rfl (by first | exact Or.inl rfl | exact Or.inr rfl) (pe_lst (pa_cons (pe_op op_add_str (pe_op op_add_str (pe_slice sl_str (pv 0) po_none (po_some (pv 3))) pe_str) (pe_slice sl_str (pv 0) (po_some (pv 3)) po_none)) (pa_cons (pe_op op_mulS pe_str pe_int) (pa_cons (pe_comp rfl (show CompScope ["_law_text_here", "_law_xs", "_law_cell", "_law_at", "_law_some_here"] (defScope s__law_no_text) ["_law_k", "_law_text_here"] 1 [0] _ from ⟨rfl, by decide +kernel, by decide +kernel, by decide +kernel, by decide +kernel, rfl, rfl, by decide +kernel⟩) (pi_range1 rfl T.no_range (pa_cons (pe_callB call_len_str rfl T.no_len (by decide +kernel) (pa_cons (pv 0) pa_nil)) pa_nil)) (fun _ _ _ _ => (pg_name (i := 0) (show (["_law_k", "_law_text_here"] : List Str).Nodup by decide +kernel) rfl (by first | exact Or.inl rfl | exact Or.inr rfl))) (fun _ _ _ _ => pif_nil) (fun _ _ _ _ => (pe_ix ix_str (pv 1) (pv 0) (fun _ _ => rfl)))) (pa_cons (pe_tup (pa_cons (pv 0) pa_nil)) (pa_cons pe_non (pa_cons pe_bl pa_nil))))))))
     (pss_cons (ps_set (i := 4) sc__law_no_text.nd rfl (by first | exact Or.inl rfl | exact Or.inr rfl) (pe_op op_cat (pv 4) (pe_lst (pa_cons (pv 2) (pa_cons (pe_op op_mulS (pe_op op_add_str (pv 0) pe_str) pe_int) (pa_cons (pe_disp (pps_cons (pv 0) (pv 0) pps_nil) rfl rfl (by intro z; cases z) (by decide)) (pa_cons (pe_lst (pa_cons (pv 0) pa_nil)) pa_nil)))))))
     (pss_one (ps_ret (pe_ix (ixK_list K rfl) (pv 4) (pe_op op_mod (pe_ix (ixK_list K rfl) (pv 1) pe_int (fun _ _ => rfl)) pe_int) (fun _ _ => rfl))))))), ?_⟩
   refine ⟨_, rfl, _, _, _, _, rfl, rfl, SqL.of ha, at0, _, rfl, _, rfl, hzl, _, _, rfl, rfl, _, _, rfl, rfl, (by show (0 : Int) < (z.length : Int) + 1; omega), ?_⟩
   refine ⟨_, rfl, _, rfl, _, rfl, _, rfl, hzl, _, _, rfl, rfl, by omega, _, rfl, _, rfl, _, rfl, _, rfl, hzl, _, _, rfl, rfl, by omega, _, _, rfl, rfl, by decide, by decide, by rw [qa]; exact Nat.le_refl _, (by rw [qa]; decide), _, rfl, _, rfl, hzl, _, rfl, by omega, by omega, fun D hD => ?_⟩
   refine comp_range (fun i ys τ H4 => (∃ v, τ = [v, some (.str z)]) ∧ Same H H4 ∧ H4 D = some (.lst ys) ∧ ∃ zs : List Str, ys = zs.map V.str ∧ zs.length = i) ⟨⟨_, rfl⟩, same_new hD, upd_same, [], rfl, rfl⟩ (fun i ys τ H4 _ p => p.2.2.1) ?_ ?_
   · rintro i ys τ H4 hi ⟨⟨v, rfl⟩, s4, hD4, zs, rfl, hyl⟩
     have hi : i < z.length := by simpa using hi
     obtain ⟨d, hd⟩ := at_nat (xs := z.cps.toList) (i := i) (by rw [Array.length_toList]; exact hi)
     refine gyes ?_
     refine ⟨_, rfl, _, rfl, z, _, d, rfl, rfl, hzl, hd, hD4, by rw [List.length_map]; omega, ⟨_, rfl⟩, same_set hD s4, upd_same, zs ++ [sg d], ?_, ?_⟩
     · rw [List.map_append]; rfl
     · rw [List.length_append, hyl]; rfl
   rintro ys τ H4 ⟨_, s4, hD4, zs, rfl, hyl⟩
   have rA := rep_len (Str.ofString "a") 2001
   rw [qa] at rA
   have ab := app_len z (Str.ofString "ab\n")
   have rM := rep_len (z ++ Str.ofString "ab\n") 700
   refine ⟨_, rfl, (by show 1 ≤ sizeLine; decide), fun t1 ht1 => ?_⟩
   (have s5 := same_new (o := HO.tup [V.str z]) ht1; have e1 := upd_same (H := H4) (a := t1) (o := HO.tup [V.str z]); generalize upd H4 t1 (HO.tup [V.str z]) = H5 at s5 e1 ⊢)
   rw [show (2001 : Int).toNat = 2001 from rfl]
   generalize (Txt.slice z none (some (n0 % ((z.length : Int) + 1))) ++ Str.ofString "\t") ++ Txt.slice z (some (n0 % ((z.length : Int) + 1))) none = sA at a4 tA ⊢
   generalize repS (Str.ofString "a") 2001 = sL at rA ⊢
   refine ⟨(by show 6 ≤ sizeLine; decide), fun L1 hL1 => ?_⟩
   (have s6 := same_new (o := HO.lst [V.str sA, V.str sL, V.ref D, V.ref t1, V.non, V.bl true]) hL1; have e6 := upd_same (H := H5) (a := L1) (o := HO.lst [V.str sA, V.str sL, V.ref D, V.ref t1, V.non, V.bl true]); generalize upd H5 L1 (HO.lst [V.str sA, V.str sL, V.ref D, V.ref t1, V.non, V.bl true]) = H6 at s6 e6 ⊢)
   refine ⟨_, rfl, _, rfl, _, rfl, _, _, rfl, rfl, by omega, _, _, rfl, rfl, by decide, by decide, by omega, (by show _ * 700 ≤ 1000000; omega), ?_⟩
   rw [show (700 : Int).toNat = 700 from rfl]
   generalize repS (z ++ Str.ofString "ab\n") 700 = sM at rM ⊢
   refine fun dd hdd => ⟨_, rfl, _, rfl, upd_same, [(.inr z, .str z)], rfl, (by show (1 : Nat) ≤ 15; decide), ?_⟩
   have s7 : Same H6 (upd (upd H6 dd (.dK [])) dd (.dK (mergeK [] [(.inr z, .str z)]))) := same_set hdd (same_new hdd)
   have e7 : (upd (upd H6 dd (.dK [])) dd (.dK (mergeK [] [(.inr z, .str z)]))) dd = some (.dK [(.inr z, .str z)]) := upd_same
   generalize upd (upd H6 dd (.dK [])) dd (HO.dK (mergeK [] [(.inr z, .str z)])) = H7 at s7 e7 ⊢
   refine ⟨_, rfl, (by show 1 ≤ sizeLine; decide), fun l2' hl2 => ?_⟩
   (have s8 := same_new (o := HO.lst [V.str z]) hl2; have e8 := upd_same (H := H7) (a := l2') (o := HO.lst [V.str z]); generalize upd H7 l2' (HO.lst [V.str z]) = H8 at s8 e8 ⊢)
   refine ⟨(by show 4 ≤ sizeLine; decide), fun L2' hL2 => ?_⟩
   (have sA' := same_new (o := HO.lst [V.int c, V.str sM, V.ref dd, V.ref l2']) hL2; have eA := upd_same (H := H8) (a := L2') (o := HO.lst [V.int c, V.str sM, V.ref dd, V.ref l2']); generalize upd H8 L2' (HO.lst [V.int c, V.str sM, V.ref dd, V.ref l2']) = HA at sA' eA ⊢)
   have s6A := s7.trans (s8.trans sA')
   refine ⟨L1, L2', _, _, rfl, rfl, s6A _ _ e6, eA, (by show 10 ≤ sizeLine; decide), fun L hL => ?_⟩
   (have sB := same_new (o := HO.lst ([V.str sA, V.str sL, V.ref D, V.ref t1, V.non, V.bl true] ++ [V.int c, V.str sM, V.ref dd, V.ref l2'])) hL; have eB := upd_same (H := HA) (a := L) (o := HO.lst ([V.str sA, V.str sL, V.ref D, V.ref t1, V.non, V.bl true] ++ [V.int c, V.str sM, V.ref dd, V.ref l2'])); generalize upd HA L (HO.lst ([V.str sA, V.str sL, V.ref D, V.ref t1, V.non, V.bl true] ++ [V.int c, V.str sM, V.ref dd, V.ref l2'])) = HB at sB eB ⊢)
   have f5 := s6.trans (s6A.trans sB)
   have f4 := s5.trans f5
   have key : ∀ v ∈ ([.str sA, .str sL, .ref D, .ref t1, .non, .bl true] ++ [.int c, .str sM, .ref dd, .ref l2'] : List V), Knd HB v ∧ (∀ z, v = .str z → z.length ≤ 10000) ∧ isT v = false := by
     intro v hv
     simp only [List.cons_append, List.nil_append, List.mem_cons, List.not_mem_nil, or_false] at hv
     rcases hv with rfl | rfl | rfl | rfl | rfl | rfl | rfl | rfl | rfl | rfl
     · exact ⟨.str _, (fun z e => by cases e; omega), tA⟩
     · exact ⟨.str _, (fun z e => by cases e; omega), isT_long (by omega)⟩
     · exact ⟨.lst (f4 _ _ hD4) (strs_flat _), (fun z e => by cases e), rfl⟩
     · exact ⟨.tup (f5 _ _ e1) rfl, (fun z e => by cases e), rfl⟩
     · exact ⟨.non, (fun z e => by cases e), rfl⟩
     · exact ⟨.bl _, (fun z e => by cases e), rfl⟩
     · exact ⟨.int _, (fun z e => by cases e), rfl⟩
     · exact ⟨.str _, (fun z e => by cases e; omega), isT_long (by omega)⟩
     · exact ⟨.dic ((s8.trans (sA'.trans sB)) _ _ e7) rfl, (fun z e => by cases e), rfl⟩
     · exact ⟨.lst ((sA'.trans sB) _ _ e8) rfl, (fun z e => by cases e), rfl⟩
   have p0 := Int.emod_nonneg n2 (show (10 : Int) ≠ 0 by decide)
   have p1 := Int.emod_lt_of_pos n2 (show (0 : Int) < 10 by decide)
   have fin : ∀ xs : List V, xs.length = 10 → ∃ v, atI xs (n2 % 10) = some v ∧ v ∈ xs := fun xs hl => at_int p0 (by rw [hl]; exact p1)
   obtain ⟨v, hv, hm'⟩ := fin _ (show ([V.str sA, .str sL, .ref D, .ref t1, .non, .bl true] ++ [V.int c, .str sM, .ref dd, .ref l2']).length = 10 from rfl)
   obtain ⟨k1, k2, k3⟩ := key v hm'
   have ha9 := (s4.trans (f4)) _ _ ha
   have kk := k v HB k1 k2 k3 (s4.trans f4)
   refine ⟨_, rfl, _, rfl, _, _, _, _, rfl, rfl, SqL.of ha9, at2, _, _, rfl, rfl, (by omega), _, _, _, _, rfl, rfl, SqL.of eB, hv, kk⟩
def sp__law_refused (K : PySem.W.Frag) : Sp := fun vs H Q _ => ∃ (ld lt : Addr) (v : V) (ws : List V) (n : Int), vs = [.ref ld, v, .ref lt, .int n] ∧ Knd H v ∧ (∀ z, v = .str z → z.length ≤ 10000) ∧ isT v = false ∧ H lt = some (.lst ws) ∧ (∀ v ∈ ws, Knd H v ∧ (∀ z, v = .str z → z.length ≤ 10000)) ∧ (∃ v ∈ ws, isT v = false) ∧ ∀ H', Same H H' → Q (.bl true) H'
theorem ok__law_refused : FnOk P w K mg base CX0 11 f__law_refused fd__law_refused ["_law_dialects", "_law_wrong", "_law_texts", "_law_way"] (sp__law_refused K) := by
 have G__law_flags : FnOkM P w K mg base 1 f__law_flags fd__law_flags ["_law_e"] (sp__law_flags K [C_NoText, C_NoTable, C_NoDialect, C_NoFamily, C_NoMost, C_NoAsk, C_NoRow, C_NoName, C_TooMany, C_Broken, C_NoWriting]) := ok__law_flags T
 have G_common : FnOk P w K mg base (CXe P w) 10 f_common fd_common ["dialects", "text", "even"] (sp_common K C_Dialect C_NoText) := ok_common T
 have G_fallen : FnOk P w K mg base (CXe P w) 9 f_fallen fd_fallen ["dialects", "text", "even"] (sp_fallen K C_Dialect C_NoText) := ok_fallen T
 have G_finding : FnOk P w K mg base (CXe P w) 10 f_finding fd_finding ["dialects", "text", "even"] (sp_finding K C_Dialect C_NoText) := ok_finding T
 have G_found_all : FnOk P w K mg base (CXe P w) 10 f_found_all fd_found_all ["dialects", "texts", "even"] (sp_found_all K C_Dialect C_NoText) := ok_found_all T
 refine T.F__law_refused.ok sc__law_refused (fun vs H Q E h => ?_) (fun cdv A outer s H vs Q E hr h => ?_)
 · obtain ⟨ld, lt, v, ws, n, rfl, _⟩ := h; rfl
 · have hu := hu_of hr
   have hu0 := hr.units0
   obtain ⟨ld, lt, v, ws, n, rfl, hkv, hbv, hT, hlw, hkw, hbad, k⟩ := h
   have hu64 := hr.units
   have xq : XC1 K C_NoText C_DialectError [C_NoText, C_NoTable, C_NoDialect, C_NoFamily, C_NoMost, C_NoAsk, C_NoRow, C_NoName, C_TooMany, C_Broken, C_NoWriting] (fun j => decide ((j : Int) = 0)) := ⟨⟨_, _, _, T.x_NoText, (.inr ⟨_, _, rfl, T.x_DialectError⟩)⟩, T.xk_NoText, (fun j D hj => match j, hj with | 0, hj => by obtain rfl : C_NoText = D := Option.some.inj hj; exact T.ki_NoText_NoText | 1, hj => by obtain rfl : C_NoTable = D := Option.some.inj hj; exact T.ki_NoText_NoTable | 2, hj => by obtain rfl : C_NoDialect = D := Option.some.inj hj; exact T.ki_NoText_NoDialect | 3, hj => by obtain rfl : C_NoFamily = D := Option.some.inj hj; exact T.ki_NoText_NoFamily | 4, hj => by obtain rfl : C_NoMost = D := Option.some.inj hj; exact T.ki_NoText_NoMost | 5, hj => by obtain rfl : C_NoAsk = D := Option.some.inj hj; exact T.ki_NoText_NoAsk | 6, hj => by obtain rfl : C_NoRow = D := Option.some.inj hj; exact T.ki_NoText_NoRow | 7, hj => by obtain rfl : C_NoName = D := Option.some.inj hj; exact T.ki_NoText_NoName | 8, hj => by obtain rfl : C_TooMany = D := Option.some.inj hj; exact T.ki_NoText_TooMany | 9, hj => by obtain rfl : C_Broken = D := Option.some.inj hj; exact T.ki_NoText_Broken | 10, hj => by obtain rfl : C_NoWriting = D := Option.some.inj hj; exact T.ki_NoText_NoWriting | (j + 11), hj => by simp at hj), T.ki_NoText_DialectError, T.kv_NoText⟩
   refine ⟨_, (pss_cons (ps_tryX rfl rfl (pssx_one (psx_if (pt_cmpR op_eq (pv 3) pe_int (nomark _)) (pssx_one (psx_expr (pex_call (k := 10) G_finding (hr.mono (by decide)) rfl T.g_finding T.F_finding.kp T.bf_finding_0.choose_spec.2 T.bf_finding_0.choose_spec.1 (pa_cons (pv 0) (pa_cons (pv 1) pa_nil))))) (pssx_one (psx_if (pt_cmpR op_eq (pv 3) pe_int (nomark _)) (pssx_one (psx_expr (pex_call (k := 9) G_fallen (hr.mono (by decide)) rfl T.g_fallen T.F_fallen.kp T.b_fallen .nil (pa_cons (pv 0) (pa_cons (pv 1) (pa_cons pe_bl pa_nil)))))) (pssx_one (psx_if (pt_cmpR op_eq (pv 3) pe_int (nomark _)) (pssx_one (psx_expr (pex_call (k := 10) G_common (hr.mono (by decide)) rfl T.g_common T.F_common.kp T.bf_common_1.choose_spec.2 T.bf_common_1.choose_spec.1 (pa_cons (pv 0) (pa_cons (pv 1) pa_nil))))) (pssx_one (psx_if (pt_cmpR op_eq (pv 3) pe_int (nomark _)) (pssx_one (psx_expr (pex_call (k := 10) G_found_all (hr.mono (by decide)) rfl T.g_found_all T.F_found_all.kp T.bf_found_all_2.choose_spec.2 T.bf_found_all_2.choose_spec.1 (pa_cons (pv 0) (pa_cons (pv 2) pa_nil))))) (pssx_one (psx_if (pt_cmpR op_eq (pv 3) pe_int (nomark _)) (pssx_one (psx_expr (pex_call (k := 10) G_finding (hr.mono (by decide)) rfl T.g_finding T.F_finding.kp T.b_finding .nil (pa_cons (pv 0) (pa_cons (pv 1) (pa_cons pe_bl pa_nil)))))) (pssx_one (psx_if (pt_cmpR op_eq (pv 3) pe_int (nomark _)) (pssx_one (psx_expr (pex_call (k := 9) G_fallen (hr.mono (by decide)) rfl T.g_fallen T.F_fallen.kp T.bf_fallen_3.choose_spec.2 T.bf_fallen_3.choose_spec.1 (pa_cons (pv 0) (pa_cons (pv 1) pa_nil))))) (pssx_one (psx_if (pt_cmpR op_eq (pv 3) pe_int (nomark _)) (pssx_one (psx_expr (pex_call (k := 10) G_common (hr.mono (by decide)) rfl T.g_common T.F_common.kp T.b_common .nil (pa_cons (pv 0) (pa_cons (pv 1) (pa_cons pe_bl pa_nil)))))) (pssx_one (psx_expr (pex_call (k := 10) G_found_all (hr.mono (by decide)) rfl T.g_found_all T.F_found_all.kp T.b_found_all .nil (pa_cons (pv 0) (pa_cons (pv 2) (pa_cons pe_bl pa_nil)))))))))))))))))))) (ph_as (i := 4) rfl rfl T.g_DialectError T.x_DialectError (.inl rfl) sc__law_refused.nd rfl rfl (fun ea => (pss_one (ps_ret (pe_and (pe_callB (call_isX rfl) rfl T.no_isinstance (by decide +kernel) (pa_cons (pv 4) (pa_cons (pe_bty "ValueError" rfl T.no_ValueError (by decide +kernel)) pa_nil))) (pe_one (pe_cmpR (op_eqS K rfl hu64) (pe_callM (k := 1) G__law_flags ((hr.mono (by decide)).m.mark _) rfl T.g__law_flags T.F__law_flags.kp T.b__law_flags (pa_cons (pv 4) pa_nil)) (pe_compG (G := Hd ea) (fun _ _ _ _ => rfl) (show CompScope ["_law_dialects", "_law_wrong", "_law_texts", "_law_way", "_law_e"] (defScope s__law_refused) ["_law_k"] 1 [] _ from ⟨rfl, by decide +kernel, by decide +kernel, by decide +kernel, by decide +kernel, rfl, rfl, by decide +kernel⟩) (pi_rangeH (ea := ea) rfl T.no_range (pa_cons pe_int pa_nil)) (fun _ _ _ _ => (pg_name (i := 0) (show (["_law_k"] : List Str).Nodup by decide +kernel) rfl (by first | exact Or.inl rfl | exact Or.inr rfl))) (fun _ _ _ _ => pif_nil) (fun _ _ _ _ => (pe_cmpR op_eq (pv 0) pe_int (nomark _)))) (nomark _))))))) ph_nil) pss_nil)
     (pss_one (ps_ret pe_bl))), ?_⟩
   apply imp_of (H := H)
   · intro hand
     refine ⟨_, rfl, rfl, _, rfl, ite2 (fun _ => ?_) (fun _ => ?_)⟩
     · exact ⟨_, rfl, _, rfl, .inr ⟨ld, v, false, rfl, hkv, hbv, hT, hand⟩⟩
     refine ⟨_, rfl, rfl, _, rfl, ite2 (fun _ => ?_) (fun _ => ?_)⟩
     · exact ⟨_, rfl, _, rfl, .inr ⟨ld, v, true, rfl, hkv, hbv, hT, hand⟩⟩
     refine ⟨_, rfl, rfl, _, rfl, ite2 (fun _ => ?_) (fun _ => ?_)⟩
     · exact ⟨_, rfl, _, rfl, ⟨ld, v, false, rfl, hkv, hbv, hT, hand⟩⟩
     refine ⟨_, rfl, rfl, _, rfl, ite2 (fun _ => ?_) (fun _ => ?_)⟩
     · exact ⟨_, rfl, _, rfl, .inr ⟨ld, lt, false, ws, rfl, hlw, hkw, hbad, hand⟩⟩
     refine ⟨_, rfl, rfl, _, rfl, ite2 (fun _ => ?_) (fun _ => ?_)⟩
     · exact ⟨_, rfl, _, rfl, .inr ⟨ld, v, true, rfl, hkv, hbv, hT, hand⟩⟩
     refine ⟨_, rfl, rfl, _, rfl, ite2 (fun _ => ?_) (fun _ => ?_)⟩
     · exact ⟨_, rfl, _, rfl, .inr ⟨ld, v, false, rfl, hkv, hbv, hT, hand⟩⟩
     refine ⟨_, rfl, rfl, _, rfl, ite2 (fun _ => ?_) (fun _ => ?_)⟩
     · exact ⟨_, rfl, _, rfl, ⟨ld, v, true, rfl, hkv, hbv, hT, hand⟩⟩
     exact ⟨_, rfl, _, rfl, .inr ⟨ld, lt, true, ws, rfl, hlw, hkw, hbad, hand⟩⟩
   intro H1 s1 ea hea
   refine ⟨C_NoText, N_NoText, _, _, rfl, T.x_NoText, iteBt (by simp) ?_⟩
   have he : (upd H1 ea (xcO ea (.ref C_NoText) none)) ea = some (xcO ea (.ref C_NoText) none) := upd_same
   have s2 := same_new (o := xcO ea (.ref C_NoText) none) hea
   generalize upd H1 ea (xcO ea (.ref C_NoText) none) = H2 at he s2 ⊢
   have xo : XOb H2 ea C_NoText := ⟨none, .inr he, .inl rfl⟩
   refine ⟨_, rfl, ea, C_NoText, _, _, _, _, true, rfl, xo, T.x_NoText, (.inr ⟨_, _, rfl, T.x_DialectError⟩), T.xk_NoText, .inl ⟨_, rfl, T.kv_NoText⟩, true, rfl, iteT ?_⟩
   refine ⟨_, rfl, ea, C_NoText, C_DialectError, _, rfl, xo, xq, fun l H3 s3 hl => ?_⟩
   refine ⟨_, rfl, by decide, by decide, fun D hD => ?_⟩
   refine comp_rangeH (fun i ys τ H4 => (∃ v, τ = [v]) ∧ Same H3 H4 ∧ H4 D = some (.lst ys) ∧ ys = (List.range i).map fun j : Nat => V.bl (decide ((j : Int) = 0))) ⟨⟨_, rfl⟩, same_new hD, upd_same, rfl⟩ (fun i ys τ H4 _ p => p.2.2.1) ?_ ?_
   · rintro i ys τ H4 hi ⟨⟨v, rfl⟩, s4, hD4, rfl⟩
     have hi : i < 11 := hi
     refine gyes ?_
     refine ⟨_, rfl, rfl, hD4, ?_, ⟨_, rfl⟩, same_set hD s4, upd_same, ?_⟩
     · rw [List.length_map, List.length_range]; exact Nat.lt_of_lt_of_le hi (by decide)
     rw [List.range_succ, List.map_append]
     show _ ++ [V.bl (decide (V.int (0 + (i : Int)) = V.int 0))] = _ ++ [V.bl (decide ((i : Int) = 0))]
     rw [Int.zero_add, int_dec]
   · rintro ys τ H4 ⟨_, s4, hD4, rfl⟩
     refine ⟨⟨_, _, (s3.trans s4) _ _ he⟩, ⟨1, l, D, _, _, rfl, rfl, by decide, rfl, .inr ⟨SqL.of (s4 _ _ hl), SqL.of hD4⟩, same_self ?_⟩, k _ (s1.trans (s2.trans (s3.trans s4)))⟩
     rw [List.all_map, List.all_eq_true]; exact fun _ _ => rfl
def sp_law (K : PySem.W.Frag) : Sp := fun vs H Q _ => ∃ (a : Addr) (ns : List Int), vs = [.ref a] ∧ SqL K H a (ns.map V.int) ∧ ns.length ≤ 63 ∧ ∀ H', Q (.bl true) H'
theorem ok_law : FnOk P w K mg base CX0 12 f_law fd_law ["_law_script"] (sp_law K) := by
 have G__law_cell_at : FnOk P w K mg base CX0 1 f__law_cell_at fd__law_cell_at ["_law_script", "_law_k"] (sp__law_cell_at K) := ok__law_cell_at T
 have G__law_drawn : FnOk P w K mg base CX0 2 f__law_drawn fd__law_drawn ["_law_cell", "_law_many"] sp__law_drawn := ok__law_drawn T
 have G__law_no_text : FnOk P w K mg base CX0 1 f__law_no_text fd__law_no_text ["_law_text_here", "_law_xs", "_law_cell"] (sp__law_no_text K) := ok__law_no_text T
 have G__law_refused : FnOk P w K mg base CX0 11 f__law_refused fd__law_refused ["_law_dialects", "_law_wrong", "_law_texts", "_law_way"] (sp__law_refused K) := ok__law_refused T
 have G__law_text : FnOk P w K mg base CX0 3 f__law_text fd__law_text ["_law_cell", "_law_tolds_here", "_law_most"] (sp__law_text K) := ok__law_text T
 have G__law_tolds : FnOk P w K mg base CX0 4 f__law_tolds fd__law_tolds ["_law_cells", "_law_many"] (sp__law_tolds K) := ok__law_tolds T
 have G_dialect_of : FnOk P w K mg base CX0 5 f_dialect_of fd_dialect_of ["told"] (sp_dialect_of C_Dialect) := ok_dialect_of T
 have G_fallen : FnOk P w K mg base (CXe P w) 9 f_fallen fd_fallen ["dialects", "text", "even"] (sp_fallen K C_Dialect C_NoText) := ok_fallen T
 have G_finding : FnOk P w K mg base (CXe P w) 10 f_finding fd_finding ["dialects", "text", "even"] (sp_finding K C_Dialect C_NoText) := ok_finding T
 have G_found_all : FnOk P w K mg base (CXe P w) 10 f_found_all fd_found_all ["dialects", "texts", "even"] (sp_found_all K C_Dialect C_NoText) := ok_found_all T
 refine T.F_law.ok sc_law (fun vs H Q E h => ?_) (fun cdv A outer s H vs Q E hr h => ?_)
 · obtain ⟨a, ns, rfl, _⟩ := h; rfl
 · have hu := hu_of hr
   have hu0 := hr.units0
   obtain ⟨a, ns, rfl, hS, hlen, k⟩ := h
   have hu64 := hr.units
   refine ⟨_, (pss_cons (ps_set (i := 1) sc_law.nd rfl (by first | exact Or.inl rfl | exact Or.inr rfl) (pe_call (k := 4) G__law_tolds (hr.mono (by decide)) rfl T.g__law_tolds T.F__law_tolds.kp T.b__law_tolds .nil pass0 (pa_cons (pe_slice (slK_list K rfl) (pv 0) (po_some pe_int) (po_some pe_int)) (pa_cons (pe_op op_mod (pe_call (k := 1) G__law_cell_at (hr.mono (by decide)) rfl T.g__law_cell_at T.F__law_cell_at.kp T.b__law_cell_at .nil pass0 (pa_cons (pv 0) (pa_cons pe_int pa_nil))) pe_int) pa_nil))))
     (pss_cons (ps_setC (i := 2) rfl sc_law.nd rfl rfl (show CompScope ["_law_script", "_law_tolds_here", "_law_dialects", "_law_good", "_law_before", "_law_cell", "_law_xs", "_law_wrong", "_law_texts", "_law_way"] (defScope s_law) ["_law_told_here"] 1 [] _ from ⟨rfl, by decide +kernel, by decide +kernel, by decide +kernel, by decide +kernel, rfl, rfl, by decide +kernel⟩) (piK_list K rfl (pv 1)) (fun _ _ _ _ => (pg_name (i := 0) (show (["_law_told_here"] : List Str).Nodup by decide +kernel) rfl (by first | exact Or.inl rfl | exact Or.inr rfl))) (fun _ _ _ _ => pif_nil) (fun _ _ _ _ => (pe_call (k := 5) G_dialect_of (hr.mono (by decide)) rfl T.g_dialect_of T.F_dialect_of.kp T.b_dialect_of .nil pass0 (pa_cons (pv 0) pa_nil))))
     (pss_cons (ps_set (i := 3) sc_law.nd rfl (by first | exact Or.inl rfl | exact Or.inr rfl) (pe_call (k := 3) G__law_text (hr.mono (by decide)) rfl T.g__law_text T.F__law_text.kp T.b__law_text .nil pass0 (pa_cons (pe_call (k := 1) G__law_cell_at (hr.mono (by decide)) rfl T.g__law_cell_at T.F__law_cell_at.kp T.b__law_cell_at .nil pass0 (pa_cons (pv 0) (pa_cons pe_int pa_nil))) (pa_cons (pv 1) (pa_cons pe_int pa_nil)))))
     (pss_cons (ps_set (i := 4) sc_law.nd rfl (by first | exact Or.inl rfl | exact Or.inr rfl) (pe_tup (pa_cons (pe_call (k := 10) G_finding (hr.mono (by decide)) rfl T.g_finding T.F_finding.kp T.bf_finding_0.choose_spec.2 T.bf_finding_0.choose_spec.1 passN (pa_cons (pv 2) (pa_cons (pv 3) pa_nil))) (pa_cons (pe_call (k := 9) G_fallen (hr.mono (by decide)) rfl T.g_fallen T.F_fallen.kp T.bf_fallen_3.choose_spec.2 T.bf_fallen_3.choose_spec.1 passN (pa_cons (pv 2) (pa_cons (pv 3) pa_nil))) (pa_cons (pe_call (k := 10) G_found_all (hr.mono (by decide)) rfl T.g_found_all T.F_found_all.kp T.bf_found_all_2.choose_spec.2 T.bf_found_all_2.choose_spec.1 passN (pa_cons (pv 2) (pa_cons (pe_lst (pa_cons (pv 3) (pa_cons pe_str pa_nil))) pa_nil))) pa_nil)))))
     (pss_cons (ps_for PassesOwn.never rfl (piK_list K rfl (pe_slice (slK_list K rfl) (pv 0) (po_some pe_int) (po_some pe_int))) (pg_name (i := 5) sc_law.nd rfl (by first | exact Or.inl rfl | exact Or.inr rfl))
     (pss_cons (ps_set (i := 6) sc_law.nd rfl (by first | exact Or.inl rfl | exact Or.inr rfl) (pe_call (k := 2) G__law_drawn (hr.mono (by decide)) rfl T.g__law_drawn T.F__law_drawn.kp T.b__law_drawn .nil pass0 (pa_cons (pv 5) (pa_cons pe_int pa_nil))))
     (pss_cons (ps_set (i := 7) sc_law.nd rfl (by first | exact Or.inl rfl | exact Or.inr rfl) (pe_call (k := 1) G__law_no_text (hr.mono (by decide)) rfl T.g__law_no_text T.F__law_no_text.kp T.b__law_no_text .nil pass0 (pa_cons (pe_call (k := 3) G__law_text (hr.mono (by decide)) rfl T.g__law_text T.F__law_text.kp T.b__law_text .nil pass0 (pa_cons (pe_op op_fdiv (pv 5) pe_int) (pa_cons (pv 1) (pa_cons pe_int pa_nil)))) (pa_cons (pv 6) (pa_cons (pv 5) pa_nil)))))
     (pss_cons (ps_set (i := 8) sc_law.nd rfl (by first | exact Or.inl rfl | exact Or.inr rfl) (pe_slice (slK_list K rfl) (pe_op op_rep (pe_lst (pa_cons (pv 3) (pa_cons pe_str (pa_cons (pv 3) (pa_cons pe_str pa_nil))))) pe_int) po_none (po_some (pe_op op_add pe_int (pe_op op_mod (pe_op op_fdiv (pe_ix (ixK_list K rfl) (pv 6) pe_int (fun _ _ => rfl)) pe_int) pe_int)))))
     (pss_cons (ps_asg (pv 7) (pg_sub (pv 8) (pe_op op_mod (pe_ix (ixK_list K rfl) (pv 6) pe_int (fun _ _ => rfl)) (pe_callB (callK_len_seq K rfl) rfl T.no_len (by decide +kernel) (pa_cons (pv 8) pa_nil))) set_list))
     (pss_cons (ps_for PassesOwn.never rfl (pi_range1 rfl T.no_range (pa_cons pe_int pa_nil)) (pg_name (i := 9) sc_law.nd rfl (by first | exact Or.inl rfl | exact Or.inr rfl))
     (pss_one (ps_if (pt_not (pt_val (pe_call (k := 11) G__law_refused (hr.mono (by decide)) rfl T.g__law_refused T.F__law_refused.kp T.b__law_refused .nil pass0 (pa_cons (pv 2) (pa_cons (pv 7) (pa_cons (pv 8) (pa_cons (pv 9) pa_nil))))))) (pss_one (ps_ret pe_bl)) pss_nil)))
     (pss_one (ps_if (pt_cmpR (op_neS K rfl hu64) (pe_tup (pa_cons (pe_call (k := 10) G_finding (hr.mono (by decide)) rfl T.g_finding T.F_finding.kp T.bf_finding_0.choose_spec.2 T.bf_finding_0.choose_spec.1 passN (pa_cons (pv 2) (pa_cons (pv 3) pa_nil))) (pa_cons (pe_call (k := 9) G_fallen (hr.mono (by decide)) rfl T.g_fallen T.F_fallen.kp T.bf_fallen_3.choose_spec.2 T.bf_fallen_3.choose_spec.1 passN (pa_cons (pv 2) (pa_cons (pv 3) pa_nil))) (pa_cons (pe_call (k := 10) G_found_all (hr.mono (by decide)) rfl T.g_found_all T.F_found_all.kp T.bf_found_all_2.choose_spec.2 T.bf_found_all_2.choose_spec.1 passN (pa_cons (pv 2) (pa_cons (pe_lst (pa_cons (pv 3) (pa_cons pe_str pa_nil))) pa_nil))) pa_nil)))) (pv 4) (nomark _)) (pss_one (ps_ret pe_bl)) pss_nil))))))))
     (pss_one (ps_ret pe_bl))))))), ?_⟩
   refine ⟨_, rfl, _, rfl, _, rfl, a, _, rfl, hS, fun p0 hp0 => ?_⟩
   obtain ⟨n1, en1, ln1, _⟩ := cut_mapG V.int ns (some 1) (some 5)
   rw [en1]
   (have s0 := same_new (o := HO.lst (List.map V.int n1)) hp0; have h0 := upd_same (H := H) (a := p0) (o := HO.lst (List.map V.int n1)); generalize upd H p0 (HO.lst (List.map V.int n1)) = H0 at s0 h0 ⊢)
   refine ⟨_, rfl, a, _, _, rfl, s0.seq hS, by decide, fun c0 => ⟨_, _, rfl, rfl, (by show (0 : Int) < 5; decide), ?_⟩⟩
   have w0 := Int.emod_nonneg c0 (show (5 : Int) ≠ 0 by decide)
   have w1 := Int.emod_lt_of_pos c0 (show (0 : Int) < 5 by decide)
   refine ⟨p0, n1, _, rfl, SqL.of h0, by omega, by omega, by omega, fun lt0 ts0 cs0 H1 hlt0 ht0 tp0 gd0 hc0 s1 => ?_⟩
   refine ⟨_, rfl, lt0, rfl, ⟨_, SqL.of ht0⟩, fun D hD => ?_⟩
   refine comp_list (K := K) (a := lt0) (xs := ts0) (fun i ys τ J => (∃ v, τ = [v]) ∧ Same H1 J ∧ J D = some (.lst ys) ∧ Mks C_Dialect J ys (cs0.take i)) ⟨⟨_, rfl⟩, same_new hD, upd_same, .nil⟩ (fun i ys τ J _ p => ⟨SqL.of (p.2.1 _ _ ht0), p.2.2.1⟩) ?_ ?_
   · rintro i e ys τ J hi ⟨⟨v, rfl⟩, sJ, hJ, mkJ⟩
     obtain ⟨x, hx, t, rfl, ht⟩ := paired_get tp0 i e hi
     have hil : i < cs0.length := (List.getElem?_eq_some_iff.mp hx).1
     have hyl := mkJ.length
     rw [List.length_take] at hyl
     refine gyes ?_
     refine ⟨_, rfl, t, x.1, x.2.1, x.2.2.1, x.2.2.2.a, x.2.2.2.b, x.2.2.2.c, x.2.2.2.d, rfl, sJ _ _ ht, gd0 x (List.mem_of_getElem? hx), fun y dy H3 hy0 hy s3 => ?_⟩
     have hJ3 := s3 _ _ hJ
     refine ⟨hJ3, Nat.lt_of_le_of_lt (show ys.length ≤ 100 by omega) (by decide), ⟨_, rfl⟩, same_set hD (sJ.trans s3), upd_same, ?_⟩
     rw [take_snocG hx]
     exact paired_app (Mks.but hJ3 (Mks.mono s3 mkJ)) (Mks.but hJ3 (.cons ⟨y, dy, rfl, hy⟩ .nil))
   rintro ys τ H2 ⟨⟨v, rfl⟩, s2, hD2, mk2⟩
   have hyl := tp0.length
   rw [hyl, List.take_of_length_le (Nat.le_refl _)] at mk2
   have ht2 := s2 _ _ ht0
   have tp2 := Tps.mono s2 tp0
   have t2 := (s0.trans s1).trans s2
   have hc0 : cs0.length ≤ 6 := by omega
   dsimp only [gName]
   refine ⟨_, rfl, a, _, _, rfl, t2.seq hS, by decide, fun c1 => ?_⟩
   refine ⟨_, rfl, c1, 8, lt0, ts0, cs0, rfl, ht2, tp2, gd0, by omega, by decide, by decide, fun z G hz hzl sG => ?_⟩
   have hzz : ∀ y ∈ [z, Str.ofString ""], cellOk y ∧ y.length ≤ 2000 := fun y hy => by
     rcases List.mem_cons.mp hy with rfl | hy
     · exact ⟨hz, by omega⟩
     · rw [List.mem_singleton.mp hy]; exact ⟨fun c hc => (by rw [em_list] at hc; cases hc), by rw [em_len]; omega⟩
   dsimp only [gName]
   refine ⟨_, rfl, _, rfl, .inl ⟨D, z, false, ys, cs0, rfl, sG _ _ hD2, Mks.mono sG mk2, gd0, by omega, hz, by omega, fun t0 w0 v0 A0 a0 fd0 sa0 => ?_⟩⟩
   have sb0 := (sG).trans sa0
   refine ⟨_, rfl, _, rfl, .inl ⟨D, z, false, ys, cs0, rfl, sb0 _ _ hD2, Mks.mono sb0 mk2, gd0, by omega, hz, by omega, fun l0 ps0 fs0 B0 _ b0 fl0 hp0 pw0 sc0 => ?_⟩⟩
   refine ⟨_, rfl, _, rfl, (by show 2 ≤ sizeLine; decide), fun q0 hq0 => ?_⟩
   (have sd0 := same_new (o := HO.lst [V.str z, V.str (Str.ofString "")]) hq0; have c0 := upd_same (H := B0) (a := q0) (o := HO.lst [V.str z, V.str (Str.ofString "")]); generalize upd B0 q0 (HO.lst [V.str z, V.str (Str.ofString "")]) = C0 at sd0 c0 ⊢)
   have sg0 := (sb0.trans sc0).trans sd0
   refine .inl ⟨D, q0, false, [z, Str.ofString ""], ys, cs0, rfl, sg0 _ _ hD2, Mks.mono sg0 mk2, gd0, by omega, c0, hzz, fun k0 Y0 _ e0 se0 => ?_⟩
   refine ⟨(by show 3 ≤ sizeLine; decide), fun tb0 htb0 => ?_⟩
   (have sf0 := same_new (o := HO.tup [V.ref t0, V.ref l0, V.ref k0]) htb0; have f0 := upd_same (H := Y0) (a := tb0) (o := HO.tup [V.ref t0, V.ref l0, V.ref k0]); generalize upd Y0 tb0 (HO.tup [V.ref t0, V.ref l0, V.ref k0]) = F0 at sf0 f0 ⊢)
   have sA0 := ((sc0.trans sd0).trans se0).trans sf0
   have sB0 := (sd0.trans se0).trans sf0
   have tri0 : Tri z cs0 [z, Str.ofString ""] F0 tb0 := ⟨t0, l0, k0, w0, v0, _, ps0, fs0, f0, sA0 _ _ a0, fd0.mono sA0, sB0 _ _ b0, Fls.mono sB0 fl0, hp0, pw0, sf0 _ _ e0⟩
   have sZ0 := (sg0.trans se0).trans sf0
   dsimp only [gName]
   refine ⟨_, rfl, _, rfl, _, rfl, a, _, rfl, (t2.trans sZ0).seq hS, fun p5 hp5 => ?_⟩
   obtain ⟨n2, en2, ln2, _⟩ := cut_mapG V.int ns (some 1) (some 9)
   rw [en2]
   (have sj := same_new (o := HO.lst (List.map V.int n2)) hp5; have h5 := upd_same (H := F0) (a := p5) (o := HO.lst (List.map V.int n2)); generalize upd F0 p5 (HO.lst (List.map V.int n2)) = J0 at sj h5 ⊢)
   refine ⟨p5, rfl, ⟨_, SqL.of h5⟩, ?_⟩
   have sJ0 := sZ0.trans sj
   refine for_list (K := K) (a := p5) (xs := n2.map V.int) (fun i σ J => Same J0 J ∧ ∃ v5 v6 v7 v8 v9, σ = [some (.ref a), some (.ref lt0), some (.ref D), some (.str z), some (.ref tb0), v5, v6, v7, v8, v9]) ⟨Same.refl _, _, _, _, _, _, rfl⟩ (fun i σ J _ q => SqL.of (q.1 _ _ h5)) ?_ ?_
   · rintro i e σ J hi ⟨sJ, v5, v6, v7, v8, v9, rfl⟩
     obtain ⟨c, _, rfl⟩ := List.mem_map.mp (List.mem_of_getElem? hi)
     have s2J := sJ0.trans sJ
     refine ⟨_, rfl, _, _, rfl, by decide, by decide, fun lx ds K1 hdl hd0 hlx hx s1' => ?_⟩
     have hdl : ds.length = 6 := hdl
     have ht3 := (s2J.trans s1') _ _ ht2
     have tp3 := Tps.mono (s2J.trans s1') tp2
     refine ⟨_, rfl, _, _, rfl, rfl, ⟨by decide, by decide⟩, _, rfl, _, 8, lt0, ts0, cs0, rfl, ht3, tp3, gd0, by omega, by decide, by decide, fun zw K2 hzw hzwl s2' => ?_⟩
     refine ⟨_, rfl, _, rfl, zw, lx, ds, c, rfl, s2' _ _ hx, by omega, by omega, fun wr K3 kw bw tw s3' => ?_⟩
     obtain ⟨d0, d1, d2, d3, d4, d5, rfl⟩ : ∃ d0 d1 d2 d3 d4 d5, ds = [d0, d1, d2, d3, d4, d5] := by
       match ds, hdl with
       | [d0, d1, d2, d3, d4, d5], _ => exact ⟨d0, d1, d2, d3, d4, d5, rfl⟩
     have at3 : atI ([d0, d1, d2, d3, d4, d5].map V.int) 3 = some (.int d3) := (show atI _ ((3 : Nat) : Int) = _ from atI_nat rfl)
     have at4 : atI ([d0, d1, d2, d3, d4, d5].map V.int) 4 = some (.int d4) := (show atI _ ((4 : Nat) : Int) = _ from atI_nat rfl)
     have hx3 := s3' _ _ (s2' _ _ hx)
     have m0 := Int.emod_nonneg (d3 / 64) (show (57 : Int) ≠ 0 by decide)
     have m1 := Int.emod_lt_of_pos (d3 / 64) (show (0 : Int) < 57 by decide)
     obtain ⟨m, em⟩ := Int.eq_ofNat_of_zero_le (show (0 : Int) ≤ 4 + d3 / 64 % 57 by omega)
     have b4 : ([V.str z, .str (Str.ofString ""), .str z, .str (Str.ofString "\n")] : List V).length * 15 ≤ sizeLine := by show 60 ≤ sizeLine; decide
     dsimp only [gName]
     refine ⟨_, rfl, _, rfl, (by show 4 ≤ sizeLine; decide), fun p hp => ⟨_, _, _, rfl, rfl, upd_same, by decide, by decide, b4, fun p2 hp2 => ?_⟩⟩
     rw [LZ_map]
     (have u1 := same_new (o := HO.lst [V.str z, V.str (Str.ofString ""), V.str z, V.str (Str.ofString "\n")]) hp; have g1 := upd_same (H := K3) (a := p) (o := HO.lst [V.str z, V.str (Str.ofString ""), V.str z, V.str (Str.ofString "\n")]); generalize upd K3 p (HO.lst [V.str z, V.str (Str.ofString ""), V.str z, V.str (Str.ofString "\n")]) = M1 at u1 g1 hp2 ⊢; have u2 := same_new (o := HO.lst (List.map V.str (LZ z))) hp2; have g2 := upd_same (H := M1) (a := p2) (o := HO.lst (List.map V.str (LZ z))); generalize upd M1 p2 (HO.lst (List.map V.str (LZ z))) = M2 at u2 g2 ⊢)
     have hx4 := u2 _ _ (u1 _ _ hx3)
     have ecut : cutV ((LZ z).map V.str) none (some (4 + d3 / 64 % 57)) = ((LZ z).take m).map V.str := by rw [em, cut_toN (by rw [List.length_map, LZ_len]; omega), List.map_take]
     have tl : (((LZ z).take m).map V.str).length = m := by rw [List.length_map, List.length_take, LZ_len]; omega
     refine ⟨_, rfl, _, _, _, _, rfl, rfl, SqL.of hx4, rfl, _, _, rfl, rfl, ⟨(by omega), (by omega)⟩, _, _, rfl, rfl, (by omega), _, _, rfl, rfl, _, rfl, _, _, rfl, SqL.of g2, fun p3 hp3 => ⟨_, rfl, _, rfl, _, rfl, _, _, _, _, rfl, rfl, SqL.of (same_new hp3 _ _ hx4), rfl, _, rfl, _, _, rfl, .inl (SqL.of upd_same), _, _, rfl, rfl, ?_, ?_⟩⟩
     · show (0 : Int) < ((cutV ((LZ z).map V.str) none (some (4 + d3 / 64 % 57))).length : Int)
       rw [ecut, tl]; omega
     rw [ecut, tl]
     (have u3 := same_new (o := HO.lst (List.map V.str (List.take m (LZ z)))) hp3; have g3 := upd_same (H := M2) (a := p3) (o := HO.lst (List.map V.str (List.take m (LZ z)))); generalize upd M2 p3 (HO.lst (List.map V.str (List.take m (LZ z)))) = M3 at u3 g3 ⊢)
     have mp : (0 : Int) < (m : Int) := by omega
     have j0 := Int.emod_nonneg d4 (show (m : Int) ≠ 0 by omega)
     have j1 := Int.emod_lt_of_pos d4 mp
     obtain ⟨j, ej⟩ := Int.eq_ofNat_of_zero_le j0
     refine ⟨p3, _, _, j, rfl, rfl, g3, ?_, ?_⟩
     · rw [ej, tl]
       unfold ixN
       rw [if_pos (by omega), if_pos (by omega)]
       rfl
     have s4' : Same K3 (upd M3 p3 (.lst ((((LZ z).take m).map V.str).set j wr))) := same_set ((u1.trans u2).free hp3) ((u1.trans u2).trans u3)
     have g4 := upd_same (H := M3) (a := p3) (o := HO.lst ((((LZ z).take m).map V.str).set j wr))
     generalize upd M3 p3 (.lst ((((LZ z).take m).map V.str).set j wr)) = M4 at s4' g4 ⊢
     have kw4 := kw.mono s4'
     have hws : ∀ v ∈ (((LZ z).take m).map V.str).set j wr, Knd M4 v ∧ (∀ z, v = .str z → z.length ≤ 10000) := fun v hv => by
       rcases List.mem_or_eq_of_mem_set hv with q | rfl
       · obtain ⟨y, hy, rfl⟩ := List.mem_map.mp q
         refine ⟨.str _, fun y' e => ?_⟩
         cases e
         rcases LZ_mem (List.mem_of_mem_take hy) with rfl | rfl | rfl
         · omega
         · rw [em_len]; omega
         · rw [nl_one]; omega
       · exact ⟨kw4, bw⟩
     have hwb : ∃ v ∈ (((LZ z).take m).map V.str).set j wr, isT v = false := ⟨wr, List.mem_iff_getElem?.mpr ⟨j, by rw [List.getElem?_set_self (by rw [tl]; omega)]⟩, tw⟩
     generalize (((LZ z).take m).map V.str).set j wr = ws at g4 hws hwb
     have s2M := (((s2J.trans s1').trans s2').trans s3').trans s4'
     refine ⟨_, rfl, (by omega), (by omega), ?_⟩
     refine for_range (fun i σ J' => Same M4 J' ∧ ∃ v9, σ = [some (.ref a), some (.ref lt0), some (.ref D), some (.str z), some (.ref tb0), some (.int c), some (.ref lx), some wr, some (.ref p3), v9]) ⟨Same.refl _, _, rfl⟩ ?_ ?_
     · rintro i σ J' hi ⟨sJ', v9', rfl⟩
       dsimp only [gName]
       exact ⟨_, rfl, _, rfl, _, rfl, _, rfl, D, p3, wr, ws, _, rfl, kw4.mono sJ', bw, tw, sJ' _ _ g4, (fun v hv => ⟨(hws v hv).1.mono sJ', (hws v hv).2⟩), hwb, fun HB sB => ⟨true, rfl, iteF ⟨sJ'.trans sB, _, rfl⟩⟩⟩
     rintro σ J' ⟨sJ', v9', rfl⟩
     have s2J' := s2M.trans sJ'
     dsimp only [gName]
     refine ⟨_, rfl, _, rfl, .inl ⟨D, z, false, ys, cs0, rfl, s2J' _ _ hD2, Mks.mono s2J' mk2, gd0, by omega, hz, by omega, fun t1 w1 v1 A1 a1 fd1 sa1 => ?_⟩⟩
     have sb1 := (s2J').trans sa1
     refine ⟨_, rfl, _, rfl, .inl ⟨D, z, false, ys, cs0, rfl, sb1 _ _ hD2, Mks.mono sb1 mk2, gd0, by omega, hz, by omega, fun l1 ps1 fs1 B1 _ b1 fl1 hp1 pw1 sc1 => ?_⟩⟩
     refine ⟨_, rfl, _, rfl, (by show 2 ≤ sizeLine; decide), fun q1 hq1 => ?_⟩
     (have sd1 := same_new (o := HO.lst [V.str z, V.str (Str.ofString "")]) hq1; have c1 := upd_same (H := B1) (a := q1) (o := HO.lst [V.str z, V.str (Str.ofString "")]); generalize upd B1 q1 (HO.lst [V.str z, V.str (Str.ofString "")]) = C1 at sd1 c1 ⊢)
     have sg1 := (sb1.trans sc1).trans sd1
     refine .inl ⟨D, q1, false, [z, Str.ofString ""], ys, cs0, rfl, sg1 _ _ hD2, Mks.mono sg1 mk2, gd0, by omega, c1, hzz, fun k1 Y1 _ e1 se1 => ?_⟩
     refine ⟨(by show 3 ≤ sizeLine; decide), fun tb1 htb1 => ?_⟩
     (have sf1 := same_new (o := HO.tup [V.ref t1, V.ref l1, V.ref k1]) htb1; have f1 := upd_same (H := Y1) (a := tb1) (o := HO.tup [V.ref t1, V.ref l1, V.ref k1]); generalize upd Y1 tb1 (HO.tup [V.ref t1, V.ref l1, V.ref k1]) = F1 at sf1 f1 ⊢)
     have sA1 := ((sc1.trans sd1).trans se1).trans sf1
     have sB1 := (sd1.trans se1).trans sf1
     have tri1 : Tri z cs0 [z, Str.ofString ""] F1 tb1 := ⟨t1, l1, k1, w1, v1, _, ps1, fs1, f1, sA1 _ _ a1, fd1.mono sA1, sB1 _ _ b1, Fls.mono sB1 fl1, hp1, pw1, sf1 _ _ e1⟩
     have sZ1 := (sg1.trans se1).trans sf1
     have sJF : Same J F1 := ((((s1'.trans s2').trans s3').trans s4').trans sJ').trans (((sa1.trans sc1).trans sd1).trans (se1.trans sf1))
     refine ⟨_, rfl, tri_top tri1 (tri0.mono ((sj.trans sJ).trans sJF)), false, rfl, iteF ⟨sJ.trans sJF, _, _, _, _, _, rfl⟩⟩
   rintro σ J ⟨sJ, v5, v6, v7, v8, v9, rfl⟩
   exact k _
end
end
theorem all_mk {l : PySem.W.OpenLaw} {w : World} {K : PySem.W.Frag} {h : Heap} {mg : Str → Option Value} {fa f_NoName___init__ f_TooMany___init__ f_Broken___init__ f_NoWriting___init__ f_is_printable f_has_signs_alone f_is_text f_are_unlike_signs f_Dialect___init__ f_Dialect_told f_dialect_of f_step_at_beginning f_step_in_plain f_step_within f_step_behind f_step_in_doubt f_step_freed f_Turn___init__ f_Turn_step f_check_text f_walk f_end_of f_table_of f_uneven_row f_fall_of f_fallen f_takers f_last_of f_finding f_takes_all f_found_all f_common f__law_cell_at f__law_mixed f__law_number f__law_some f__law_menus f__law_told f__law_drawn f__law_flags f__law_near f__law_tolds f__law_menu f__law_text f__law_no_text f__law_refused f_law C_Dialect C_Turn C_DialectError N_DialectError C_NoText N_NoText C_NoTable N_NoTable C_NoDialect N_NoDialect C_NoFamily N_NoFamily C_NoMost N_NoMost C_NoAsk N_NoAsk C_NoRow N_NoRow C_NoName N_NoName C_TooMany N_TooMany C_Broken N_Broken C_NoWriting N_NoWriting a_START : Addr} {z_LINE : Str} {dt_Dialect___init__ dt_fallen dt_finding dt_found_all dt_common : Addr} (X : K.In h) (G : h.Ns mainGlobals mg) (hfa : mg "law" = some (.ref fa))
   (aC_Dialect : PySem.W.nsIn K mainGlobals "Dialect" = some (some (.ref C_Dialect)))
   (aC_Turn : PySem.W.nsIn K mainGlobals "Turn" = some (some (.ref C_Turn)))
   (aX_DialectError : PySem.W.nsIn K mainGlobals "DialectError" = some (some (.ref C_DialectError)))
   (aX_NoText : PySem.W.nsIn K mainGlobals "NoText" = some (some (.ref C_NoText)))
   (aX_NoTable : PySem.W.nsIn K mainGlobals "NoTable" = some (some (.ref C_NoTable)))
   (aX_NoDialect : PySem.W.nsIn K mainGlobals "NoDialect" = some (some (.ref C_NoDialect)))
   (aX_NoFamily : PySem.W.nsIn K mainGlobals "NoFamily" = some (some (.ref C_NoFamily)))
   (aX_NoMost : PySem.W.nsIn K mainGlobals "NoMost" = some (some (.ref C_NoMost)))
   (aX_NoAsk : PySem.W.nsIn K mainGlobals "NoAsk" = some (some (.ref C_NoAsk)))
   (aX_NoRow : PySem.W.nsIn K mainGlobals "NoRow" = some (some (.ref C_NoRow)))
   (aX_NoName : PySem.W.nsIn K mainGlobals "NoName" = some (some (.ref C_NoName)))
   (aX_TooMany : PySem.W.nsIn K mainGlobals "TooMany" = some (some (.ref C_TooMany)))
   (aX_Broken : PySem.W.nsIn K mainGlobals "Broken" = some (some (.ref C_Broken)))
   (aX_NoWriting : PySem.W.nsIn K mainGlobals "NoWriting" = some (some (.ref C_NoWriting)))
   {od0 an0 : Option Addr} {sl0 : Array (Option Value)} {oc0 kV0 dc0 pm0 cd0 ct0 : Value}
   (l0 : K.lookup f_NoName___init__ = some ⟨oc0, od0, .func (PySem.W.fnOf "__init__" "NoName.__init__" (defArgs s_NoName___init__) (defBody s_NoName___init__) (defScope s_NoName___init__) .none kV0 dc0 pm0 an0 cd0 ct0), sl0⟩) (c0 : PySem.W.codeIn K cd0 "NoName.__init__" = true) (k0 : PySem.W.keepIn K (.ref f_NoName___init__) = true)
   {od1 an1 : Option Addr} {sl1 : Array (Option Value)} {oc1 kV1 dc1 pm1 cd1 ct1 : Value}
   (l1 : K.lookup f_TooMany___init__ = some ⟨oc1, od1, .func (PySem.W.fnOf "__init__" "TooMany.__init__" (defArgs s_TooMany___init__) (defBody s_TooMany___init__) (defScope s_TooMany___init__) .none kV1 dc1 pm1 an1 cd1 ct1), sl1⟩) (c1 : PySem.W.codeIn K cd1 "TooMany.__init__" = true) (k1 : PySem.W.keepIn K (.ref f_TooMany___init__) = true)
   {od2 an2 : Option Addr} {sl2 : Array (Option Value)} {oc2 kV2 dc2 pm2 cd2 ct2 : Value}
   (l2 : K.lookup f_Broken___init__ = some ⟨oc2, od2, .func (PySem.W.fnOf "__init__" "Broken.__init__" (defArgs s_Broken___init__) (defBody s_Broken___init__) (defScope s_Broken___init__) .none kV2 dc2 pm2 an2 cd2 ct2), sl2⟩) (c2 : PySem.W.codeIn K cd2 "Broken.__init__" = true) (k2 : PySem.W.keepIn K (.ref f_Broken___init__) = true)
   {od3 an3 : Option Addr} {sl3 : Array (Option Value)} {oc3 kV3 dc3 pm3 cd3 ct3 : Value}
   (l3 : K.lookup f_NoWriting___init__ = some ⟨oc3, od3, .func (PySem.W.fnOf "__init__" "NoWriting.__init__" (defArgs s_NoWriting___init__) (defBody s_NoWriting___init__) (defScope s_NoWriting___init__) .none kV3 dc3 pm3 an3 cd3 ct3), sl3⟩) (c3 : PySem.W.codeIn K cd3 "NoWriting.__init__" = true) (k3 : PySem.W.keepIn K (.ref f_NoWriting___init__) = true)
   {od4 an4 : Option Addr} {sl4 : Array (Option Value)} {oc4 kV4 dc4 pm4 cd4 ct4 : Value}
   (a4 : PySem.W.nsIn K mainGlobals "is_printable" = some (some (.ref f_is_printable)))
   (l4 : K.lookup f_is_printable = some ⟨oc4, od4, .func (PySem.W.fnOf "is_printable" "is_printable" (defArgs s_is_printable) (defBody s_is_printable) (defScope s_is_printable) .none kV4 dc4 pm4 an4 cd4 ct4), sl4⟩) (c4 : PySem.W.codeIn K cd4 "is_printable" = true) (k4 : PySem.W.keepIn K (.ref f_is_printable) = true)
   {od5 an5 : Option Addr} {sl5 : Array (Option Value)} {oc5 kV5 dc5 pm5 cd5 ct5 : Value}
   (a5 : PySem.W.nsIn K mainGlobals "has_signs_alone" = some (some (.ref f_has_signs_alone)))
   (l5 : K.lookup f_has_signs_alone = some ⟨oc5, od5, .func (PySem.W.fnOf "has_signs_alone" "has_signs_alone" (defArgs s_has_signs_alone) (defBody s_has_signs_alone) (defScope s_has_signs_alone) .none kV5 dc5 pm5 an5 cd5 ct5), sl5⟩) (c5 : PySem.W.codeIn K cd5 "has_signs_alone" = true) (k5 : PySem.W.keepIn K (.ref f_has_signs_alone) = true)
   {od6 an6 : Option Addr} {sl6 : Array (Option Value)} {oc6 kV6 dc6 pm6 cd6 ct6 : Value}
   (a6 : PySem.W.nsIn K mainGlobals "is_text" = some (some (.ref f_is_text)))
   (l6 : K.lookup f_is_text = some ⟨oc6, od6, .func (PySem.W.fnOf "is_text" "is_text" (defArgs s_is_text) (defBody s_is_text) (defScope s_is_text) .none kV6 dc6 pm6 an6 cd6 ct6), sl6⟩) (c6 : PySem.W.codeIn K cd6 "is_text" = true) (k6 : PySem.W.keepIn K (.ref f_is_text) = true)
   {od7 an7 : Option Addr} {sl7 : Array (Option Value)} {oc7 kV7 dc7 pm7 cd7 ct7 : Value}
   (a7 : PySem.W.nsIn K mainGlobals "are_unlike_signs" = some (some (.ref f_are_unlike_signs)))
   (l7 : K.lookup f_are_unlike_signs = some ⟨oc7, od7, .func (PySem.W.fnOf "are_unlike_signs" "are_unlike_signs" (defArgs s_are_unlike_signs) (defBody s_are_unlike_signs) (defScope s_are_unlike_signs) .none kV7 dc7 pm7 an7 cd7 ct7), sl7⟩) (c7 : PySem.W.codeIn K cd7 "are_unlike_signs" = true) (k7 : PySem.W.keepIn K (.ref f_are_unlike_signs) = true)
   {od8 an8 : Option Addr} {sl8 : Array (Option Value)} {oc8 kV8 dc8 pm8 cd8 ct8 : Value}
   (a8 : PySem.W.findIn K (.ref C_Dialect) "__init__" = some (some (.ref f_Dialect___init__))) (i8 : PySem.W.isFn K (.ref f_Dialect___init__) = true)
   (l8 : K.lookup f_Dialect___init__ = some ⟨oc8, od8, .func (PySem.W.fnOf "__init__" "Dialect.__init__" (defArgs s_Dialect___init__) (defBody s_Dialect___init__) (defScope s_Dialect___init__) (.ref dt_Dialect___init__) kV8 dc8 pm8 an8 cd8 ct8), sl8⟩) (c8 : PySem.W.codeIn K cd8 "Dialect.__init__" = true) (k8 : PySem.W.keepIn K (.ref f_Dialect___init__) = true)
   {od_d8 : Option Addr} {n_d8 : Nat} {sl_d8 : Array (Option Value)} {td8_0 td8_1 : Tok} (d8 : K.lookup dt_Dialect___init__ = some ⟨.type "tuple", od_d8, .seq #[.str (Str.ofString "") td8_0, .str (Str.ofString "") td8_1, .bool false, .bool false, .bool false, .bool false] n_d8, sl_d8⟩)
   {od9 an9 : Option Addr} {sl9 : Array (Option Value)} {oc9 kV9 dc9 pm9 cd9 ct9 : Value}
   (a9 : PySem.W.findIn K (.ref C_Dialect) "told" = some (some (.ref f_Dialect_told))) (i9 : PySem.W.isFn K (.ref f_Dialect_told) = true)
   (l9 : K.lookup f_Dialect_told = some ⟨oc9, od9, .func (PySem.W.fnOf "told" "Dialect.told" (defArgs s_Dialect_told) (defBody s_Dialect_told) (defScope s_Dialect_told) .none kV9 dc9 pm9 an9 cd9 ct9), sl9⟩) (c9 : PySem.W.codeIn K cd9 "Dialect.told" = true) (k9 : PySem.W.keepIn K (.ref f_Dialect_told) = true)
   {od10 an10 : Option Addr} {sl10 : Array (Option Value)} {oc10 kV10 dc10 pm10 cd10 ct10 : Value}
   (a10 : PySem.W.nsIn K mainGlobals "dialect_of" = some (some (.ref f_dialect_of)))
   (l10 : K.lookup f_dialect_of = some ⟨oc10, od10, .func (PySem.W.fnOf "dialect_of" "dialect_of" (defArgs s_dialect_of) (defBody s_dialect_of) (defScope s_dialect_of) .none kV10 dc10 pm10 an10 cd10 ct10), sl10⟩) (c10 : PySem.W.codeIn K cd10 "dialect_of" = true) (k10 : PySem.W.keepIn K (.ref f_dialect_of) = true)
   {od11 an11 : Option Addr} {sl11 : Array (Option Value)} {oc11 kV11 dc11 pm11 cd11 ct11 : Value}
   (a11 : PySem.W.nsIn K mainGlobals "step_at_beginning" = some (some (.ref f_step_at_beginning)))
   (l11 : K.lookup f_step_at_beginning = some ⟨oc11, od11, .func (PySem.W.fnOf "step_at_beginning" "step_at_beginning" (defArgs s_step_at_beginning) (defBody s_step_at_beginning) (defScope s_step_at_beginning) .none kV11 dc11 pm11 an11 cd11 ct11), sl11⟩) (c11 : PySem.W.codeIn K cd11 "step_at_beginning" = true) (k11 : PySem.W.keepIn K (.ref f_step_at_beginning) = true)
   {od12 an12 : Option Addr} {sl12 : Array (Option Value)} {oc12 kV12 dc12 pm12 cd12 ct12 : Value}
   (a12 : PySem.W.nsIn K mainGlobals "step_in_plain" = some (some (.ref f_step_in_plain)))
   (l12 : K.lookup f_step_in_plain = some ⟨oc12, od12, .func (PySem.W.fnOf "step_in_plain" "step_in_plain" (defArgs s_step_in_plain) (defBody s_step_in_plain) (defScope s_step_in_plain) .none kV12 dc12 pm12 an12 cd12 ct12), sl12⟩) (c12 : PySem.W.codeIn K cd12 "step_in_plain" = true) (k12 : PySem.W.keepIn K (.ref f_step_in_plain) = true)
   {od13 an13 : Option Addr} {sl13 : Array (Option Value)} {oc13 kV13 dc13 pm13 cd13 ct13 : Value}
   (a13 : PySem.W.nsIn K mainGlobals "step_within" = some (some (.ref f_step_within)))
   (l13 : K.lookup f_step_within = some ⟨oc13, od13, .func (PySem.W.fnOf "step_within" "step_within" (defArgs s_step_within) (defBody s_step_within) (defScope s_step_within) .none kV13 dc13 pm13 an13 cd13 ct13), sl13⟩) (c13 : PySem.W.codeIn K cd13 "step_within" = true) (k13 : PySem.W.keepIn K (.ref f_step_within) = true)
   {od14 an14 : Option Addr} {sl14 : Array (Option Value)} {oc14 kV14 dc14 pm14 cd14 ct14 : Value}
   (a14 : PySem.W.nsIn K mainGlobals "step_behind" = some (some (.ref f_step_behind)))
   (l14 : K.lookup f_step_behind = some ⟨oc14, od14, .func (PySem.W.fnOf "step_behind" "step_behind" (defArgs s_step_behind) (defBody s_step_behind) (defScope s_step_behind) .none kV14 dc14 pm14 an14 cd14 ct14), sl14⟩) (c14 : PySem.W.codeIn K cd14 "step_behind" = true) (k14 : PySem.W.keepIn K (.ref f_step_behind) = true)
   {od15 an15 : Option Addr} {sl15 : Array (Option Value)} {oc15 kV15 dc15 pm15 cd15 ct15 : Value}
   (a15 : PySem.W.nsIn K mainGlobals "step_in_doubt" = some (some (.ref f_step_in_doubt)))
   (l15 : K.lookup f_step_in_doubt = some ⟨oc15, od15, .func (PySem.W.fnOf "step_in_doubt" "step_in_doubt" (defArgs s_step_in_doubt) (defBody s_step_in_doubt) (defScope s_step_in_doubt) .none kV15 dc15 pm15 an15 cd15 ct15), sl15⟩) (c15 : PySem.W.codeIn K cd15 "step_in_doubt" = true) (k15 : PySem.W.keepIn K (.ref f_step_in_doubt) = true)
   {od16 an16 : Option Addr} {sl16 : Array (Option Value)} {oc16 kV16 dc16 pm16 cd16 ct16 : Value}
   (a16 : PySem.W.nsIn K mainGlobals "step_freed" = some (some (.ref f_step_freed)))
   (l16 : K.lookup f_step_freed = some ⟨oc16, od16, .func (PySem.W.fnOf "step_freed" "step_freed" (defArgs s_step_freed) (defBody s_step_freed) (defScope s_step_freed) .none kV16 dc16 pm16 an16 cd16 ct16), sl16⟩) (c16 : PySem.W.codeIn K cd16 "step_freed" = true) (k16 : PySem.W.keepIn K (.ref f_step_freed) = true)
   {od17 an17 : Option Addr} {sl17 : Array (Option Value)} {oc17 kV17 dc17 pm17 cd17 ct17 : Value}
   (a17 : PySem.W.findIn K (.ref C_Turn) "__init__" = some (some (.ref f_Turn___init__))) (i17 : PySem.W.isFn K (.ref f_Turn___init__) = true)
   (l17 : K.lookup f_Turn___init__ = some ⟨oc17, od17, .func (PySem.W.fnOf "__init__" "Turn.__init__" (defArgs s_Turn___init__) (defBody s_Turn___init__) (defScope s_Turn___init__) .none kV17 dc17 pm17 an17 cd17 ct17), sl17⟩) (c17 : PySem.W.codeIn K cd17 "Turn.__init__" = true) (k17 : PySem.W.keepIn K (.ref f_Turn___init__) = true)
   {od18 an18 : Option Addr} {sl18 : Array (Option Value)} {oc18 kV18 dc18 pm18 cd18 ct18 : Value}
   (a18 : PySem.W.findIn K (.ref C_Turn) "step" = some (some (.ref f_Turn_step))) (i18 : PySem.W.isFn K (.ref f_Turn_step) = true)
   (l18 : K.lookup f_Turn_step = some ⟨oc18, od18, .func (PySem.W.fnOf "step" "Turn.step" (defArgs s_Turn_step) (defBody s_Turn_step) (defScope s_Turn_step) .none kV18 dc18 pm18 an18 cd18 ct18), sl18⟩) (c18 : PySem.W.codeIn K cd18 "Turn.step" = true) (k18 : PySem.W.keepIn K (.ref f_Turn_step) = true)
   {od19 an19 : Option Addr} {sl19 : Array (Option Value)} {oc19 kV19 dc19 pm19 cd19 ct19 : Value}
   (a19 : PySem.W.nsIn K mainGlobals "check_text" = some (some (.ref f_check_text)))
   (l19 : K.lookup f_check_text = some ⟨oc19, od19, .func (PySem.W.fnOf "check_text" "check_text" (defArgs s_check_text) (defBody s_check_text) (defScope s_check_text) .none kV19 dc19 pm19 an19 cd19 ct19), sl19⟩) (c19 : PySem.W.codeIn K cd19 "check_text" = true) (k19 : PySem.W.keepIn K (.ref f_check_text) = true)
   {od20 an20 : Option Addr} {sl20 : Array (Option Value)} {oc20 kV20 dc20 pm20 cd20 ct20 : Value}
   (a20 : PySem.W.nsIn K mainGlobals "walk" = some (some (.ref f_walk)))
   (l20 : K.lookup f_walk = some ⟨oc20, od20, .func (PySem.W.fnOf "walk" "walk" (defArgs s_walk) (defBody s_walk) (defScope s_walk) .none kV20 dc20 pm20 an20 cd20 ct20), sl20⟩) (c20 : PySem.W.codeIn K cd20 "walk" = true) (k20 : PySem.W.keepIn K (.ref f_walk) = true)
   {od21 an21 : Option Addr} {sl21 : Array (Option Value)} {oc21 kV21 dc21 pm21 cd21 ct21 : Value}
   (a21 : PySem.W.nsIn K mainGlobals "end_of" = some (some (.ref f_end_of)))
   (l21 : K.lookup f_end_of = some ⟨oc21, od21, .func (PySem.W.fnOf "end_of" "end_of" (defArgs s_end_of) (defBody s_end_of) (defScope s_end_of) .none kV21 dc21 pm21 an21 cd21 ct21), sl21⟩) (c21 : PySem.W.codeIn K cd21 "end_of" = true) (k21 : PySem.W.keepIn K (.ref f_end_of) = true)
   {od22 an22 : Option Addr} {sl22 : Array (Option Value)} {oc22 kV22 dc22 pm22 cd22 ct22 : Value}
   (a22 : PySem.W.nsIn K mainGlobals "table_of" = some (some (.ref f_table_of)))
   (l22 : K.lookup f_table_of = some ⟨oc22, od22, .func (PySem.W.fnOf "table_of" "table_of" (defArgs s_table_of) (defBody s_table_of) (defScope s_table_of) .none kV22 dc22 pm22 an22 cd22 ct22), sl22⟩) (c22 : PySem.W.codeIn K cd22 "table_of" = true) (k22 : PySem.W.keepIn K (.ref f_table_of) = true)
   {od23 an23 : Option Addr} {sl23 : Array (Option Value)} {oc23 kV23 dc23 pm23 cd23 ct23 : Value}
   (a23 : PySem.W.nsIn K mainGlobals "uneven_row" = some (some (.ref f_uneven_row)))
   (l23 : K.lookup f_uneven_row = some ⟨oc23, od23, .func (PySem.W.fnOf "uneven_row" "uneven_row" (defArgs s_uneven_row) (defBody s_uneven_row) (defScope s_uneven_row) .none kV23 dc23 pm23 an23 cd23 ct23), sl23⟩) (c23 : PySem.W.codeIn K cd23 "uneven_row" = true) (k23 : PySem.W.keepIn K (.ref f_uneven_row) = true)
   {od24 an24 : Option Addr} {sl24 : Array (Option Value)} {oc24 kV24 dc24 pm24 cd24 ct24 : Value}
   (a24 : PySem.W.nsIn K mainGlobals "fall_of" = some (some (.ref f_fall_of)))
   (l24 : K.lookup f_fall_of = some ⟨oc24, od24, .func (PySem.W.fnOf "fall_of" "fall_of" (defArgs s_fall_of) (defBody s_fall_of) (defScope s_fall_of) .none kV24 dc24 pm24 an24 cd24 ct24), sl24⟩) (c24 : PySem.W.codeIn K cd24 "fall_of" = true) (k24 : PySem.W.keepIn K (.ref f_fall_of) = true)
   {od25 an25 : Option Addr} {sl25 : Array (Option Value)} {oc25 kV25 dc25 pm25 cd25 ct25 : Value}
   (a25 : PySem.W.nsIn K mainGlobals "fallen" = some (some (.ref f_fallen)))
   (l25 : K.lookup f_fallen = some ⟨oc25, od25, .func (PySem.W.fnOf "fallen" "fallen" (defArgs s_fallen) (defBody s_fallen) (defScope s_fallen) (.ref dt_fallen) kV25 dc25 pm25 an25 cd25 ct25), sl25⟩) (c25 : PySem.W.codeIn K cd25 "fallen" = true) (k25 : PySem.W.keepIn K (.ref f_fallen) = true)
   {od_d25 : Option Addr} {n_d25 : Nat} {sl_d25 : Array (Option Value)} (d25 : K.lookup dt_fallen = some ⟨.type "tuple", od_d25, .seq #[.bool false] n_d25, sl_d25⟩)
   {od26 an26 : Option Addr} {sl26 : Array (Option Value)} {oc26 kV26 dc26 pm26 cd26 ct26 : Value}
   (a26 : PySem.W.nsIn K mainGlobals "takers" = some (some (.ref f_takers)))
   (l26 : K.lookup f_takers = some ⟨oc26, od26, .func (PySem.W.fnOf "takers" "takers" (defArgs s_takers) (defBody s_takers) (defScope s_takers) .none kV26 dc26 pm26 an26 cd26 ct26), sl26⟩) (c26 : PySem.W.codeIn K cd26 "takers" = true) (k26 : PySem.W.keepIn K (.ref f_takers) = true)
   {od27 an27 : Option Addr} {sl27 : Array (Option Value)} {oc27 kV27 dc27 pm27 cd27 ct27 : Value}
   (a27 : PySem.W.nsIn K mainGlobals "last_of" = some (some (.ref f_last_of)))
   (l27 : K.lookup f_last_of = some ⟨oc27, od27, .func (PySem.W.fnOf "last_of" "last_of" (defArgs s_last_of) (defBody s_last_of) (defScope s_last_of) .none kV27 dc27 pm27 an27 cd27 ct27), sl27⟩) (c27 : PySem.W.codeIn K cd27 "last_of" = true) (k27 : PySem.W.keepIn K (.ref f_last_of) = true)
   {od28 an28 : Option Addr} {sl28 : Array (Option Value)} {oc28 kV28 dc28 pm28 cd28 ct28 : Value}
   (a28 : PySem.W.nsIn K mainGlobals "finding" = some (some (.ref f_finding)))
   (l28 : K.lookup f_finding = some ⟨oc28, od28, .func (PySem.W.fnOf "finding" "finding" (defArgs s_finding) (defBody s_finding) (defScope s_finding) (.ref dt_finding) kV28 dc28 pm28 an28 cd28 ct28), sl28⟩) (c28 : PySem.W.codeIn K cd28 "finding" = true) (k28 : PySem.W.keepIn K (.ref f_finding) = true)
   {od_d28 : Option Addr} {n_d28 : Nat} {sl_d28 : Array (Option Value)} (d28 : K.lookup dt_finding = some ⟨.type "tuple", od_d28, .seq #[.bool false] n_d28, sl_d28⟩)
   {od29 an29 : Option Addr} {sl29 : Array (Option Value)} {oc29 kV29 dc29 pm29 cd29 ct29 : Value}
   (a29 : PySem.W.nsIn K mainGlobals "takes_all" = some (some (.ref f_takes_all)))
   (l29 : K.lookup f_takes_all = some ⟨oc29, od29, .func (PySem.W.fnOf "takes_all" "takes_all" (defArgs s_takes_all) (defBody s_takes_all) (defScope s_takes_all) .none kV29 dc29 pm29 an29 cd29 ct29), sl29⟩) (c29 : PySem.W.codeIn K cd29 "takes_all" = true) (k29 : PySem.W.keepIn K (.ref f_takes_all) = true)
   {od30 an30 : Option Addr} {sl30 : Array (Option Value)} {oc30 kV30 dc30 pm30 cd30 ct30 : Value}
   (a30 : PySem.W.nsIn K mainGlobals "found_all" = some (some (.ref f_found_all)))
   (l30 : K.lookup f_found_all = some ⟨oc30, od30, .func (PySem.W.fnOf "found_all" "found_all" (defArgs s_found_all) (defBody s_found_all) (defScope s_found_all) (.ref dt_found_all) kV30 dc30 pm30 an30 cd30 ct30), sl30⟩) (c30 : PySem.W.codeIn K cd30 "found_all" = true) (k30 : PySem.W.keepIn K (.ref f_found_all) = true)
   {od_d30 : Option Addr} {n_d30 : Nat} {sl_d30 : Array (Option Value)} (d30 : K.lookup dt_found_all = some ⟨.type "tuple", od_d30, .seq #[.bool false] n_d30, sl_d30⟩)
   {od31 an31 : Option Addr} {sl31 : Array (Option Value)} {oc31 kV31 dc31 pm31 cd31 ct31 : Value}
   (a31 : PySem.W.nsIn K mainGlobals "common" = some (some (.ref f_common)))
   (l31 : K.lookup f_common = some ⟨oc31, od31, .func (PySem.W.fnOf "common" "common" (defArgs s_common) (defBody s_common) (defScope s_common) (.ref dt_common) kV31 dc31 pm31 an31 cd31 ct31), sl31⟩) (c31 : PySem.W.codeIn K cd31 "common" = true) (k31 : PySem.W.keepIn K (.ref f_common) = true)
   {od_d31 : Option Addr} {n_d31 : Nat} {sl_d31 : Array (Option Value)} (d31 : K.lookup dt_common = some ⟨.type "tuple", od_d31, .seq #[.bool false] n_d31, sl_d31⟩)
   {od32 an32 : Option Addr} {sl32 : Array (Option Value)} {oc32 kV32 dc32 pm32 cd32 ct32 : Value}
   (a32 : PySem.W.nsIn K mainGlobals "_law_cell_at" = some (some (.ref f__law_cell_at)))
   (l32 : K.lookup f__law_cell_at = some ⟨oc32, od32, .func (PySem.W.fnOf "_law_cell_at" "_law_cell_at" (defArgs s__law_cell_at) (defBody s__law_cell_at) (defScope s__law_cell_at) .none kV32 dc32 pm32 an32 cd32 ct32), sl32⟩) (c32 : PySem.W.codeIn K cd32 "_law_cell_at" = true) (k32 : PySem.W.keepIn K (.ref f__law_cell_at) = true)
   {od33 an33 : Option Addr} {sl33 : Array (Option Value)} {oc33 kV33 dc33 pm33 cd33 ct33 : Value}
   (a33 : PySem.W.nsIn K mainGlobals "_law_mixed" = some (some (.ref f__law_mixed)))
   (l33 : K.lookup f__law_mixed = some ⟨oc33, od33, .func (PySem.W.fnOf "_law_mixed" "_law_mixed" (defArgs s__law_mixed) (defBody s__law_mixed) (defScope s__law_mixed) .none kV33 dc33 pm33 an33 cd33 ct33), sl33⟩) (c33 : PySem.W.codeIn K cd33 "_law_mixed" = true) (k33 : PySem.W.keepIn K (.ref f__law_mixed) = true)
   {od34 an34 : Option Addr} {sl34 : Array (Option Value)} {oc34 kV34 dc34 pm34 cd34 ct34 : Value}
   (a34 : PySem.W.nsIn K mainGlobals "_law_number" = some (some (.ref f__law_number)))
   (l34 : K.lookup f__law_number = some ⟨oc34, od34, .func (PySem.W.fnOf "_law_number" "_law_number" (defArgs s__law_number) (defBody s__law_number) (defScope s__law_number) .none kV34 dc34 pm34 an34 cd34 ct34), sl34⟩) (c34 : PySem.W.codeIn K cd34 "_law_number" = true) (k34 : PySem.W.keepIn K (.ref f__law_number) = true)
   {od35 an35 : Option Addr} {sl35 : Array (Option Value)} {oc35 kV35 dc35 pm35 cd35 ct35 : Value}
   (a35 : PySem.W.nsIn K mainGlobals "_law_some" = some (some (.ref f__law_some)))
   (l35 : K.lookup f__law_some = some ⟨oc35, od35, .func (PySem.W.fnOf "_law_some" "_law_some" (defArgs s__law_some) (defBody s__law_some) (defScope s__law_some) .none kV35 dc35 pm35 an35 cd35 ct35), sl35⟩) (c35 : PySem.W.codeIn K cd35 "_law_some" = true) (k35 : PySem.W.keepIn K (.ref f__law_some) = true)
   {od36 an36 : Option Addr} {sl36 : Array (Option Value)} {oc36 kV36 dc36 pm36 cd36 ct36 : Value}
   (a36 : PySem.W.nsIn K mainGlobals "_law_menus" = some (some (.ref f__law_menus)))
   (l36 : K.lookup f__law_menus = some ⟨oc36, od36, .func (PySem.W.fnOf "_law_menus" "_law_menus" (defArgs s__law_menus) (defBody s__law_menus) (defScope s__law_menus) .none kV36 dc36 pm36 an36 cd36 ct36), sl36⟩) (c36 : PySem.W.codeIn K cd36 "_law_menus" = true) (k36 : PySem.W.keepIn K (.ref f__law_menus) = true)
   {od37 an37 : Option Addr} {sl37 : Array (Option Value)} {oc37 kV37 dc37 pm37 cd37 ct37 : Value}
   (a37 : PySem.W.nsIn K mainGlobals "_law_told" = some (some (.ref f__law_told)))
   (l37 : K.lookup f__law_told = some ⟨oc37, od37, .func (PySem.W.fnOf "_law_told" "_law_told" (defArgs s__law_told) (defBody s__law_told) (defScope s__law_told) .none kV37 dc37 pm37 an37 cd37 ct37), sl37⟩) (c37 : PySem.W.codeIn K cd37 "_law_told" = true) (k37 : PySem.W.keepIn K (.ref f__law_told) = true)
   {od38 an38 : Option Addr} {sl38 : Array (Option Value)} {oc38 kV38 dc38 pm38 cd38 ct38 : Value}
   (a38 : PySem.W.nsIn K mainGlobals "_law_drawn" = some (some (.ref f__law_drawn)))
   (l38 : K.lookup f__law_drawn = some ⟨oc38, od38, .func (PySem.W.fnOf "_law_drawn" "_law_drawn" (defArgs s__law_drawn) (defBody s__law_drawn) (defScope s__law_drawn) .none kV38 dc38 pm38 an38 cd38 ct38), sl38⟩) (c38 : PySem.W.codeIn K cd38 "_law_drawn" = true) (k38 : PySem.W.keepIn K (.ref f__law_drawn) = true)
   {od39 an39 : Option Addr} {sl39 : Array (Option Value)} {oc39 kV39 dc39 pm39 cd39 ct39 : Value}
   (a39 : PySem.W.nsIn K mainGlobals "_law_flags" = some (some (.ref f__law_flags)))
   (l39 : K.lookup f__law_flags = some ⟨oc39, od39, .func (PySem.W.fnOf "_law_flags" "_law_flags" (defArgs s__law_flags) (defBody s__law_flags) (defScope s__law_flags) .none kV39 dc39 pm39 an39 cd39 ct39), sl39⟩) (c39 : PySem.W.codeIn K cd39 "_law_flags" = true) (k39 : PySem.W.keepIn K (.ref f__law_flags) = true)
   {od40 an40 : Option Addr} {sl40 : Array (Option Value)} {oc40 kV40 dc40 pm40 cd40 ct40 : Value}
   (a40 : PySem.W.nsIn K mainGlobals "_law_near" = some (some (.ref f__law_near)))
   (l40 : K.lookup f__law_near = some ⟨oc40, od40, .func (PySem.W.fnOf "_law_near" "_law_near" (defArgs s__law_near) (defBody s__law_near) (defScope s__law_near) .none kV40 dc40 pm40 an40 cd40 ct40), sl40⟩) (c40 : PySem.W.codeIn K cd40 "_law_near" = true) (k40 : PySem.W.keepIn K (.ref f__law_near) = true)
   {od41 an41 : Option Addr} {sl41 : Array (Option Value)} {oc41 kV41 dc41 pm41 cd41 ct41 : Value}
   (a41 : PySem.W.nsIn K mainGlobals "_law_tolds" = some (some (.ref f__law_tolds)))
   (l41 : K.lookup f__law_tolds = some ⟨oc41, od41, .func (PySem.W.fnOf "_law_tolds" "_law_tolds" (defArgs s__law_tolds) (defBody s__law_tolds) (defScope s__law_tolds) .none kV41 dc41 pm41 an41 cd41 ct41), sl41⟩) (c41 : PySem.W.codeIn K cd41 "_law_tolds" = true) (k41 : PySem.W.keepIn K (.ref f__law_tolds) = true)
   {od42 an42 : Option Addr} {sl42 : Array (Option Value)} {oc42 kV42 dc42 pm42 cd42 ct42 : Value}
   (a42 : PySem.W.nsIn K mainGlobals "_law_menu" = some (some (.ref f__law_menu)))
   (l42 : K.lookup f__law_menu = some ⟨oc42, od42, .func (PySem.W.fnOf "_law_menu" "_law_menu" (defArgs s__law_menu) (defBody s__law_menu) (defScope s__law_menu) .none kV42 dc42 pm42 an42 cd42 ct42), sl42⟩) (c42 : PySem.W.codeIn K cd42 "_law_menu" = true) (k42 : PySem.W.keepIn K (.ref f__law_menu) = true)
   {od43 an43 : Option Addr} {sl43 : Array (Option Value)} {oc43 kV43 dc43 pm43 cd43 ct43 : Value}
   (a43 : PySem.W.nsIn K mainGlobals "_law_text" = some (some (.ref f__law_text)))
   (l43 : K.lookup f__law_text = some ⟨oc43, od43, .func (PySem.W.fnOf "_law_text" "_law_text" (defArgs s__law_text) (defBody s__law_text) (defScope s__law_text) .none kV43 dc43 pm43 an43 cd43 ct43), sl43⟩) (c43 : PySem.W.codeIn K cd43 "_law_text" = true) (k43 : PySem.W.keepIn K (.ref f__law_text) = true)
   {od44 an44 : Option Addr} {sl44 : Array (Option Value)} {oc44 kV44 dc44 pm44 cd44 ct44 : Value}
   (a44 : PySem.W.nsIn K mainGlobals "_law_no_text" = some (some (.ref f__law_no_text)))
   (l44 : K.lookup f__law_no_text = some ⟨oc44, od44, .func (PySem.W.fnOf "_law_no_text" "_law_no_text" (defArgs s__law_no_text) (defBody s__law_no_text) (defScope s__law_no_text) .none kV44 dc44 pm44 an44 cd44 ct44), sl44⟩) (c44 : PySem.W.codeIn K cd44 "_law_no_text" = true) (k44 : PySem.W.keepIn K (.ref f__law_no_text) = true)
   {od45 an45 : Option Addr} {sl45 : Array (Option Value)} {oc45 kV45 dc45 pm45 cd45 ct45 : Value}
   (a45 : PySem.W.nsIn K mainGlobals "_law_refused" = some (some (.ref f__law_refused)))
   (l45 : K.lookup f__law_refused = some ⟨oc45, od45, .func (PySem.W.fnOf "_law_refused" "_law_refused" (defArgs s__law_refused) (defBody s__law_refused) (defScope s__law_refused) .none kV45 dc45 pm45 an45 cd45 ct45), sl45⟩) (c45 : PySem.W.codeIn K cd45 "_law_refused" = true) (k45 : PySem.W.keepIn K (.ref f__law_refused) = true)
   {od46 an46 : Option Addr} {sl46 : Array (Option Value)} {oc46 kV46 dc46 pm46 cd46 ct46 : Value}
   (a46 : PySem.W.nsIn K mainGlobals "law" = some (some (.ref f_law)))
   (l46 : K.lookup f_law = some ⟨oc46, od46, .func (PySem.W.fnOf "law" "law" (defArgs s_law) (defBody s_law) (defScope s_law) .none kV46 dc46 pm46 an46 cd46 ct46), sl46⟩) (c46 : PySem.W.codeIn K cd46 "law" = true) (k46 : PySem.W.keepIn K (.ref f_law) = true)
   (pg_Dialect : PySem.W.plainGet K C_Dialect Str.empty = true) (hd_Dialect : PySem.W.hasDictIn K C_Dialect = true) (po_Dialect : PySem.W.plainOver K C_Dialect = true) (sa_Dialect : PySem.W.findIn K (.ref C_Dialect) "__setattr__" = some (some (.builtin "object.__setattr__"))) (mk_Dialect : PySem.W.makesIn K C_Dialect = true) (kc_Dialect : PySem.W.keepIn K (.ref C_Dialect) = true)
   (n_Dialect_parts : PySem.W.findIn K (.ref C_Dialect) "parts" = some none)
   (n_Dialect_quotes : PySem.W.findIn K (.ref C_Dialect) "quotes" = some none)
   (n_Dialect_frees : PySem.W.findIn K (.ref C_Dialect) "frees" = some none)
   (n_Dialect_twin : PySem.W.findIn K (.ref C_Dialect) "twin" = some none)
   (n_Dialect_wide : PySem.W.findIn K (.ref C_Dialect) "wide" = some none)
   (n_Dialect_thin : PySem.W.findIn K (.ref C_Dialect) "thin" = some none)
   (n_Dialect_stray : PySem.W.findIn K (.ref C_Dialect) "stray" = some none)
   (pg_Turn : PySem.W.plainGet K C_Turn Str.empty = true) (hd_Turn : PySem.W.hasDictIn K C_Turn = true) (po_Turn : PySem.W.plainOver K C_Turn = true) (sa_Turn : PySem.W.findIn K (.ref C_Turn) "__setattr__" = some (some (.builtin "object.__setattr__"))) (mk_Turn : PySem.W.makesIn K C_Turn = true) (kc_Turn : PySem.W.keepIn K (.ref C_Turn) = true)
   (n_Turn_dialect : PySem.W.findIn K (.ref C_Turn) "dialect" = some none)
   {nm_DialectError qx_DialectError : Str} {bs_DialectError sub_DialectError : List Value} {hd_xDialectError ab_DialectError : Bool} {sn_DialectError : List Str} {col_DialectError : Option Bool} {dd_DialectError odn_DialectError : Option Addr} {k0_DialectError k1_DialectError k2_DialectError k3_DialectError k5_DialectError : Option Value} {ocn_DialectError : Value} {esn_DialectError : Array DictEntry} {nn_DialectError : Nat} {sln_DialectError : Array (Option Value)}
   (ox_DialectError : K.lookup C_DialectError = some (excClassObj nm_DialectError qx_DialectError C_DialectError N_DialectError bs_DialectError bmVE hd_xDialectError sn_DialectError sub_DialectError ab_DialectError col_DialectError dd_DialectError k0_DialectError k1_DialectError k2_DialectError k3_DialectError k5_DialectError "ValueError.__new__"))
   (nx_DialectError : K.lookup N_DialectError = some ⟨ocn_DialectError, odn_DialectError, .dict esn_DialectError nn_DialectError, sln_DialectError⟩) (w_ax_DialectError : (esn_DialectError.toList.all fun e => match e.key with | .str _ _ => true | _ => false) = true) (ix_DialectError : PySem.W.nsIn K N_DialectError "__init__" = some none)
   (xs_DialectError : PySem.W.specialIn K (.ref C_DialectError) "__getattribute__" = some (some (.builtin "type.__getattribute__"))) (xr_DialectError : PySem.W.readsIn K C_DialectError (.type "type") = true) (xc_DialectError : PySem.W.findCls K (.ref C_DialectError) (.type "type") "__init__" = some (.val (.builtin "ValueError.__init__")))
   {nm_NoText qx_NoText : Str} {bs_NoText sub_NoText : List Value} {hd_xNoText ab_NoText : Bool} {sn_NoText : List Str} {col_NoText : Option Bool} {dd_NoText odn_NoText : Option Addr} {k0_NoText k1_NoText k2_NoText k3_NoText k5_NoText : Option Value} {ocn_NoText : Value} {esn_NoText : Array DictEntry} {nn_NoText : Nat} {sln_NoText : Array (Option Value)}
   (ox_NoText : K.lookup C_NoText = some (excClassObj nm_NoText qx_NoText C_NoText N_NoText bs_NoText (.ref C_DialectError :: bmVE) hd_xNoText sn_NoText sub_NoText ab_NoText col_NoText dd_NoText k0_NoText k1_NoText k2_NoText k3_NoText k5_NoText "ValueError.__new__"))
   (nx_NoText : K.lookup N_NoText = some ⟨ocn_NoText, odn_NoText, .dict esn_NoText nn_NoText, sln_NoText⟩) (w_ax_NoText : (esn_NoText.toList.all fun e => match e.key with | .str _ _ => true | _ => false) = true) (ix_NoText : PySem.W.nsIn K N_NoText "__init__" = some none)
   {nm_NoTable qx_NoTable : Str} {bs_NoTable sub_NoTable : List Value} {hd_xNoTable ab_NoTable : Bool} {sn_NoTable : List Str} {col_NoTable : Option Bool} {dd_NoTable odn_NoTable : Option Addr} {k0_NoTable k1_NoTable k2_NoTable k3_NoTable k5_NoTable : Option Value} {ocn_NoTable : Value} {esn_NoTable : Array DictEntry} {nn_NoTable : Nat} {sln_NoTable : Array (Option Value)}
   (ox_NoTable : K.lookup C_NoTable = some (excClassObj nm_NoTable qx_NoTable C_NoTable N_NoTable bs_NoTable (.ref C_DialectError :: bmVE) hd_xNoTable sn_NoTable sub_NoTable ab_NoTable col_NoTable dd_NoTable k0_NoTable k1_NoTable k2_NoTable k3_NoTable k5_NoTable "ValueError.__new__"))
   (nx_NoTable : K.lookup N_NoTable = some ⟨ocn_NoTable, odn_NoTable, .dict esn_NoTable nn_NoTable, sln_NoTable⟩) (w_ax_NoTable : (esn_NoTable.toList.all fun e => match e.key with | .str _ _ => true | _ => false) = true) (ix_NoTable : PySem.W.nsIn K N_NoTable "__init__" = some none)
   {nm_NoDialect qx_NoDialect : Str} {bs_NoDialect sub_NoDialect : List Value} {hd_xNoDialect ab_NoDialect : Bool} {sn_NoDialect : List Str} {col_NoDialect : Option Bool} {dd_NoDialect odn_NoDialect : Option Addr} {k0_NoDialect k1_NoDialect k2_NoDialect k3_NoDialect k5_NoDialect : Option Value} {ocn_NoDialect : Value} {esn_NoDialect : Array DictEntry} {nn_NoDialect : Nat} {sln_NoDialect : Array (Option Value)}
   (ox_NoDialect : K.lookup C_NoDialect = some (excClassObj nm_NoDialect qx_NoDialect C_NoDialect N_NoDialect bs_NoDialect (.ref C_DialectError :: bmVE) hd_xNoDialect sn_NoDialect sub_NoDialect ab_NoDialect col_NoDialect dd_NoDialect k0_NoDialect k1_NoDialect k2_NoDialect k3_NoDialect k5_NoDialect "ValueError.__new__"))
   (nx_NoDialect : K.lookup N_NoDialect = some ⟨ocn_NoDialect, odn_NoDialect, .dict esn_NoDialect nn_NoDialect, sln_NoDialect⟩) (w_ax_NoDialect : (esn_NoDialect.toList.all fun e => match e.key with | .str _ _ => true | _ => false) = true) (ix_NoDialect : PySem.W.nsIn K N_NoDialect "__init__" = some none)
   {nm_NoFamily qx_NoFamily : Str} {bs_NoFamily sub_NoFamily : List Value} {hd_xNoFamily ab_NoFamily : Bool} {sn_NoFamily : List Str} {col_NoFamily : Option Bool} {dd_NoFamily odn_NoFamily : Option Addr} {k0_NoFamily k1_NoFamily k2_NoFamily k3_NoFamily k5_NoFamily : Option Value} {ocn_NoFamily : Value} {esn_NoFamily : Array DictEntry} {nn_NoFamily : Nat} {sln_NoFamily : Array (Option Value)}
   (ox_NoFamily : K.lookup C_NoFamily = some (excClassObj nm_NoFamily qx_NoFamily C_NoFamily N_NoFamily bs_NoFamily (.ref C_DialectError :: bmVE) hd_xNoFamily sn_NoFamily sub_NoFamily ab_NoFamily col_NoFamily dd_NoFamily k0_NoFamily k1_NoFamily k2_NoFamily k3_NoFamily k5_NoFamily "ValueError.__new__"))
   (nx_NoFamily : K.lookup N_NoFamily = some ⟨ocn_NoFamily, odn_NoFamily, .dict esn_NoFamily nn_NoFamily, sln_NoFamily⟩) (w_ax_NoFamily : (esn_NoFamily.toList.all fun e => match e.key with | .str _ _ => true | _ => false) = true) (ix_NoFamily : PySem.W.nsIn K N_NoFamily "__init__" = some none)
   {nm_NoMost qx_NoMost : Str} {bs_NoMost sub_NoMost : List Value} {hd_xNoMost ab_NoMost : Bool} {sn_NoMost : List Str} {col_NoMost : Option Bool} {dd_NoMost odn_NoMost : Option Addr} {k0_NoMost k1_NoMost k2_NoMost k3_NoMost k5_NoMost : Option Value} {ocn_NoMost : Value} {esn_NoMost : Array DictEntry} {nn_NoMost : Nat} {sln_NoMost : Array (Option Value)}
   (ox_NoMost : K.lookup C_NoMost = some (excClassObj nm_NoMost qx_NoMost C_NoMost N_NoMost bs_NoMost (.ref C_DialectError :: bmVE) hd_xNoMost sn_NoMost sub_NoMost ab_NoMost col_NoMost dd_NoMost k0_NoMost k1_NoMost k2_NoMost k3_NoMost k5_NoMost "ValueError.__new__"))
   (nx_NoMost : K.lookup N_NoMost = some ⟨ocn_NoMost, odn_NoMost, .dict esn_NoMost nn_NoMost, sln_NoMost⟩) (w_ax_NoMost : (esn_NoMost.toList.all fun e => match e.key with | .str _ _ => true | _ => false) = true) (ix_NoMost : PySem.W.nsIn K N_NoMost "__init__" = some none)
   {nm_NoAsk qx_NoAsk : Str} {bs_NoAsk sub_NoAsk : List Value} {hd_xNoAsk ab_NoAsk : Bool} {sn_NoAsk : List Str} {col_NoAsk : Option Bool} {dd_NoAsk odn_NoAsk : Option Addr} {k0_NoAsk k1_NoAsk k2_NoAsk k3_NoAsk k5_NoAsk : Option Value} {ocn_NoAsk : Value} {esn_NoAsk : Array DictEntry} {nn_NoAsk : Nat} {sln_NoAsk : Array (Option Value)}
   (ox_NoAsk : K.lookup C_NoAsk = some (excClassObj nm_NoAsk qx_NoAsk C_NoAsk N_NoAsk bs_NoAsk (.ref C_DialectError :: bmVE) hd_xNoAsk sn_NoAsk sub_NoAsk ab_NoAsk col_NoAsk dd_NoAsk k0_NoAsk k1_NoAsk k2_NoAsk k3_NoAsk k5_NoAsk "ValueError.__new__"))
   (nx_NoAsk : K.lookup N_NoAsk = some ⟨ocn_NoAsk, odn_NoAsk, .dict esn_NoAsk nn_NoAsk, sln_NoAsk⟩) (w_ax_NoAsk : (esn_NoAsk.toList.all fun e => match e.key with | .str _ _ => true | _ => false) = true) (ix_NoAsk : PySem.W.nsIn K N_NoAsk "__init__" = some none)
   {nm_NoRow qx_NoRow : Str} {bs_NoRow sub_NoRow : List Value} {hd_xNoRow ab_NoRow : Bool} {sn_NoRow : List Str} {col_NoRow : Option Bool} {dd_NoRow odn_NoRow : Option Addr} {k0_NoRow k1_NoRow k2_NoRow k3_NoRow k5_NoRow : Option Value} {ocn_NoRow : Value} {esn_NoRow : Array DictEntry} {nn_NoRow : Nat} {sln_NoRow : Array (Option Value)}
   (ox_NoRow : K.lookup C_NoRow = some (excClassObj nm_NoRow qx_NoRow C_NoRow N_NoRow bs_NoRow (.ref C_DialectError :: bmVE) hd_xNoRow sn_NoRow sub_NoRow ab_NoRow col_NoRow dd_NoRow k0_NoRow k1_NoRow k2_NoRow k3_NoRow k5_NoRow "ValueError.__new__"))
   (nx_NoRow : K.lookup N_NoRow = some ⟨ocn_NoRow, odn_NoRow, .dict esn_NoRow nn_NoRow, sln_NoRow⟩) (w_ax_NoRow : (esn_NoRow.toList.all fun e => match e.key with | .str _ _ => true | _ => false) = true) (ix_NoRow : PySem.W.nsIn K N_NoRow "__init__" = some none)
   {nm_NoName qx_NoName : Str} {bs_NoName sub_NoName : List Value} {hd_xNoName ab_NoName : Bool} {sn_NoName : List Str} {col_NoName : Option Bool} {dd_NoName odn_NoName : Option Addr} {k0_NoName k1_NoName k2_NoName k3_NoName k5_NoName : Option Value} {ocn_NoName : Value} {esn_NoName : Array DictEntry} {nn_NoName : Nat} {sln_NoName : Array (Option Value)}
   (ox_NoName : K.lookup C_NoName = some (excClassObj nm_NoName qx_NoName C_NoName N_NoName bs_NoName (.ref C_DialectError :: bmVE) hd_xNoName sn_NoName sub_NoName ab_NoName col_NoName dd_NoName k0_NoName k1_NoName k2_NoName k3_NoName k5_NoName "ValueError.__new__"))
   (nx_NoName : K.lookup N_NoName = some ⟨ocn_NoName, odn_NoName, .dict esn_NoName nn_NoName, sln_NoName⟩) (w_ax_NoName : (esn_NoName.toList.all fun e => match e.key with | .str _ _ => true | _ => false) = true) (ix_NoName : PySem.W.nsIn K N_NoName "__init__" = some (some (.ref f_NoName___init__)))
   {odx_NoName : Option Addr} {dtx_NoName : Data} {slx_NoName : Array (Option Value)} (kx_NoName : PySem.W.keepIn K (.ref C_NoName) = true) (lx_NoName : K.lookup f_NoName___init__ = some ⟨.type "function", odx_NoName, dtx_NoName, slx_NoName⟩) (xsa_NoName : PySem.W.findIn K (.ref C_NoName) "__setattr__" = some (some (.builtin "object.__setattr__"))) (xga_NoName : PySem.W.findIn K (.ref C_NoName) "__getattribute__" = some (some (.builtin "BaseException.__getattribute__"))) (xgx_NoName : PySem.W.findIn K (.ref C_NoName) "__getattr__" = some none) (xhd_NoName : PySem.W.hasDictIn K C_NoName = true)
   (xn_NoName_name : PySem.W.findIn K (.ref C_NoName) "name" = some none)
   {nm_TooMany qx_TooMany : Str} {bs_TooMany sub_TooMany : List Value} {hd_xTooMany ab_TooMany : Bool} {sn_TooMany : List Str} {col_TooMany : Option Bool} {dd_TooMany odn_TooMany : Option Addr} {k0_TooMany k1_TooMany k2_TooMany k3_TooMany k5_TooMany : Option Value} {ocn_TooMany : Value} {esn_TooMany : Array DictEntry} {nn_TooMany : Nat} {sln_TooMany : Array (Option Value)}
   (ox_TooMany : K.lookup C_TooMany = some (excClassObj nm_TooMany qx_TooMany C_TooMany N_TooMany bs_TooMany (.ref C_DialectError :: bmVE) hd_xTooMany sn_TooMany sub_TooMany ab_TooMany col_TooMany dd_TooMany k0_TooMany k1_TooMany k2_TooMany k3_TooMany k5_TooMany "ValueError.__new__"))
   (nx_TooMany : K.lookup N_TooMany = some ⟨ocn_TooMany, odn_TooMany, .dict esn_TooMany nn_TooMany, sln_TooMany⟩) (w_ax_TooMany : (esn_TooMany.toList.all fun e => match e.key with | .str _ _ => true | _ => false) = true) (ix_TooMany : PySem.W.nsIn K N_TooMany "__init__" = some (some (.ref f_TooMany___init__)))
   {odx_TooMany : Option Addr} {dtx_TooMany : Data} {slx_TooMany : Array (Option Value)} (kx_TooMany : PySem.W.keepIn K (.ref C_TooMany) = true) (lx_TooMany : K.lookup f_TooMany___init__ = some ⟨.type "function", odx_TooMany, dtx_TooMany, slx_TooMany⟩) (xsa_TooMany : PySem.W.findIn K (.ref C_TooMany) "__setattr__" = some (some (.builtin "object.__setattr__"))) (xga_TooMany : PySem.W.findIn K (.ref C_TooMany) "__getattribute__" = some (some (.builtin "BaseException.__getattribute__"))) (xgx_TooMany : PySem.W.findIn K (.ref C_TooMany) "__getattr__" = some none) (xhd_TooMany : PySem.W.hasDictIn K C_TooMany = true)
   (xn_TooMany_most : PySem.W.findIn K (.ref C_TooMany) "most" = some none)
   {nm_Broken qx_Broken : Str} {bs_Broken sub_Broken : List Value} {hd_xBroken ab_Broken : Bool} {sn_Broken : List Str} {col_Broken : Option Bool} {dd_Broken odn_Broken : Option Addr} {k0_Broken k1_Broken k2_Broken k3_Broken k5_Broken : Option Value} {ocn_Broken : Value} {esn_Broken : Array DictEntry} {nn_Broken : Nat} {sln_Broken : Array (Option Value)}
   (ox_Broken : K.lookup C_Broken = some (excClassObj nm_Broken qx_Broken C_Broken N_Broken bs_Broken (.ref C_DialectError :: bmVE) hd_xBroken sn_Broken sub_Broken ab_Broken col_Broken dd_Broken k0_Broken k1_Broken k2_Broken k3_Broken k5_Broken "ValueError.__new__"))
   (nx_Broken : K.lookup N_Broken = some ⟨ocn_Broken, odn_Broken, .dict esn_Broken nn_Broken, sln_Broken⟩) (w_ax_Broken : (esn_Broken.toList.all fun e => match e.key with | .str _ _ => true | _ => false) = true) (ix_Broken : PySem.W.nsIn K N_Broken "__init__" = some (some (.ref f_Broken___init__)))
   {odx_Broken : Option Addr} {dtx_Broken : Data} {slx_Broken : Array (Option Value)} (kx_Broken : PySem.W.keepIn K (.ref C_Broken) = true) (lx_Broken : K.lookup f_Broken___init__ = some ⟨.type "function", odx_Broken, dtx_Broken, slx_Broken⟩) (xsa_Broken : PySem.W.findIn K (.ref C_Broken) "__setattr__" = some (some (.builtin "object.__setattr__"))) (xga_Broken : PySem.W.findIn K (.ref C_Broken) "__getattribute__" = some (some (.builtin "BaseException.__getattribute__"))) (xgx_Broken : PySem.W.findIn K (.ref C_Broken) "__getattr__" = some none) (xhd_Broken : PySem.W.hasDictIn K C_Broken = true)
   (xn_Broken_row : PySem.W.findIn K (.ref C_Broken) "row" = some none)
   (xn_Broken_place : PySem.W.findIn K (.ref C_Broken) "place" = some none)
   (xn_Broken_word : PySem.W.findIn K (.ref C_Broken) "word" = some none)
   {nm_NoWriting qx_NoWriting : Str} {bs_NoWriting sub_NoWriting : List Value} {hd_xNoWriting ab_NoWriting : Bool} {sn_NoWriting : List Str} {col_NoWriting : Option Bool} {dd_NoWriting odn_NoWriting : Option Addr} {k0_NoWriting k1_NoWriting k2_NoWriting k3_NoWriting k5_NoWriting : Option Value} {ocn_NoWriting : Value} {esn_NoWriting : Array DictEntry} {nn_NoWriting : Nat} {sln_NoWriting : Array (Option Value)}
   (ox_NoWriting : K.lookup C_NoWriting = some (excClassObj nm_NoWriting qx_NoWriting C_NoWriting N_NoWriting bs_NoWriting (.ref C_DialectError :: bmVE) hd_xNoWriting sn_NoWriting sub_NoWriting ab_NoWriting col_NoWriting dd_NoWriting k0_NoWriting k1_NoWriting k2_NoWriting k3_NoWriting k5_NoWriting "ValueError.__new__"))
   (nx_NoWriting : K.lookup N_NoWriting = some ⟨ocn_NoWriting, odn_NoWriting, .dict esn_NoWriting nn_NoWriting, sln_NoWriting⟩) (w_ax_NoWriting : (esn_NoWriting.toList.all fun e => match e.key with | .str _ _ => true | _ => false) = true) (ix_NoWriting : PySem.W.nsIn K N_NoWriting "__init__" = some (some (.ref f_NoWriting___init__)))
   {odx_NoWriting : Option Addr} {dtx_NoWriting : Data} {slx_NoWriting : Array (Option Value)} (kx_NoWriting : PySem.W.keepIn K (.ref C_NoWriting) = true) (lx_NoWriting : K.lookup f_NoWriting___init__ = some ⟨.type "function", odx_NoWriting, dtx_NoWriting, slx_NoWriting⟩) (xsa_NoWriting : PySem.W.findIn K (.ref C_NoWriting) "__setattr__" = some (some (.builtin "object.__setattr__"))) (xga_NoWriting : PySem.W.findIn K (.ref C_NoWriting) "__getattribute__" = some (some (.builtin "BaseException.__getattribute__"))) (xgx_NoWriting : PySem.W.findIn K (.ref C_NoWriting) "__getattr__" = some none) (xhd_NoWriting : PySem.W.hasDictIn K C_NoWriting = true)
   (xn_NoWriting_row : PySem.W.findIn K (.ref C_NoWriting) "row" = some none)
   (xn_NoWriting_cell : PySem.W.findIn K (.ref C_NoWriting) "cell" = some none)
   (xkn : PySem.W.specialIn K (.builtin "object.__class__") "__get__" = some (some (.builtin "getset_descriptor.__get__"))) (xkt : PySem.W.takesIn K (.builtin "object.__class__") = some true)
   (xga_NoText : PySem.W.findIn K (.ref C_NoText) "__getattribute__" = some (some (.builtin "BaseException.__getattribute__"))) (xgx_NoText : PySem.W.findIn K (.ref C_NoText) "__getattr__" = some none) (xhd_NoText : PySem.W.hasDictIn K C_NoText = true) (kx_NoText : PySem.W.keepIn K (.ref C_NoText) = true)
   (xka_NoText : PySem.W.findIn K (.ref C_NoText) "__class__" = some (some (.builtin "object.__class__"))) (xkm_NoText : PySem.W.mroIn K C_NoText (.type "object") = some true) (kv_NoText : PySem.W.mroIn K C_NoText (.type "ValueError") = some true)
   (ki_NoText_DialectError : PySem.W.mroIn K C_NoText (.ref C_DialectError) = some true)
   (ki_NoText_NoText : PySem.W.mroIn K C_NoText (.ref C_NoText) = some true)
   (ki_NoText_NoTable : PySem.W.mroIn K C_NoText (.ref C_NoTable) = some false)
   (ki_NoText_NoDialect : PySem.W.mroIn K C_NoText (.ref C_NoDialect) = some false)
   (ki_NoText_NoFamily : PySem.W.mroIn K C_NoText (.ref C_NoFamily) = some false)
   (ki_NoText_NoMost : PySem.W.mroIn K C_NoText (.ref C_NoMost) = some false)
   (ki_NoText_NoAsk : PySem.W.mroIn K C_NoText (.ref C_NoAsk) = some false)
   (ki_NoText_NoRow : PySem.W.mroIn K C_NoText (.ref C_NoRow) = some false)
   (ki_NoText_NoName : PySem.W.mroIn K C_NoText (.ref C_NoName) = some false)
   (ki_NoText_TooMany : PySem.W.mroIn K C_NoText (.ref C_TooMany) = some false)
   (ki_NoText_Broken : PySem.W.mroIn K C_NoText (.ref C_Broken) = some false)
   (ki_NoText_NoWriting : PySem.W.mroIn K C_NoText (.ref C_NoWriting) = some false)
   (z_ValueError : PySem.W.nsIn K mainGlobals "ValueError" = some none)
   (z_all : PySem.W.nsIn K mainGlobals "all" = some none)
   (z_any : PySem.W.nsIn K mainGlobals "any" = some none)
   (z_bool : PySem.W.nsIn K mainGlobals "bool" = some none)
   (z_enumerate : PySem.W.nsIn K mainGlobals "enumerate" = some none)
   (z_isinstance : PySem.W.nsIn K mainGlobals "isinstance" = some none)
   (z_len : PySem.W.nsIn K mainGlobals "len" = some none)
   (z_list : PySem.W.nsIn K mainGlobals "list" = some none)
   (z_max : PySem.W.nsIn K mainGlobals "max" = some none)
   (z_ord : PySem.W.nsIn K mainGlobals "ord" = some none)
   (z_range : PySem.W.nsIn K mainGlobals "range" = some none)
   (z_sorted : PySem.W.nsIn K mainGlobals "sorted" = some none)
   (z_str : PySem.W.nsIn K mainGlobals "str" = some none)
   (z_tuple : PySem.W.nsIn K mainGlobals "tuple" = some none)
   (z_zip : PySem.W.nsIn K mainGlobals "zip" = some none)
   {tk_LINE : Tok} (v_LINE : PySem.W.nsIn K mainGlobals "LINE" = some (some (.str z_LINE tk_LINE))) (w_LINE : z_LINE = Str.ofString "\n")
   {tk_MOST_SIGNS : Tok} (v_MOST_SIGNS : PySem.W.nsIn K mainGlobals "MOST_SIGNS" = some (some (.int 2000 tk_MOST_SIGNS)))
   (v_START : PySem.W.nsIn K mainGlobals "START" = some (some (.ref a_START)))
   {od_START : Option Addr} {n_START : Nat} {sl_START : Array (Option Value)} {t0_START t1_START : Tok} (t_START : K.lookup a_START = some ⟨.type "tuple", od_START, .seq #[.str (Str.ofString "row") t0_START, .str (Str.ofString "") t1_START] n_START, sl_START⟩) :
   ∃ fd : FuncData, (∀ (s : Shared) (v : Value), BindsTo s fd ⟨[v], []⟩ [("_law_script", v)]) ∧ ∀ base : Heap, K.In base → base.Ns mainGlobals mg → FnOk l.prog w K mg base CX0 12 fa fd ["_law_script"] (sp_law K) := by
 have e := hfa.symm.trans (PySem.W.mg_of X G a46)
 cases e
 have F0 := fun_mk (st := s_NoName___init__) l0 c0 k0
 have b0 := F0.binds (ps := ["self", "name"]) fun _ _ _ _ _ _ us hl => match us, hl with | [_, _], _ => rfl
 have F1 := fun_mk (st := s_TooMany___init__) l1 c1 k1
 have b1 := F1.binds (ps := ["self", "most"]) fun _ _ _ _ _ _ us hl => match us, hl with | [_, _], _ => rfl
 have F2 := fun_mk (st := s_Broken___init__) l2 c2 k2
 have b2 := F2.binds (ps := ["self", "row", "place", "word"]) fun _ _ _ _ _ _ us hl => match us, hl with | [_, _, _, _], _ => rfl
 have F3 := fun_mk (st := s_NoWriting___init__) l3 c3 k3
 have b3 := F3.binds (ps := ["self", "row", "cell"]) fun _ _ _ _ _ _ us hl => match us, hl with | [_, _, _], _ => rfl
 have F4 := fun_mk (st := s_is_printable) l4 c4 k4
 have b4 := F4.binds (ps := ["sign"]) fun _ _ _ _ _ _ us hl => match us, hl with | [_], _ => rfl
 have F5 := fun_mk (st := s_has_signs_alone) l5 c5 k5
 have b5 := F5.binds (ps := ["text"]) fun _ _ _ _ _ _ us hl => match us, hl with | [_], _ => rfl
 have F6 := fun_mk (st := s_is_text) l6 c6 k6
 have b6 := F6.binds (ps := ["thing"]) fun _ _ _ _ _ _ us hl => match us, hl with | [_], _ => rfl
 have F7 := fun_mk (st := s_are_unlike_signs) l7 c7 k7
 have b7 := F7.binds (ps := ["thing", "least", "most"]) fun _ _ _ _ _ _ us hl => match us, hl with | [_, _, _], _ => rfl
 have F8 := funD_mk (st := s_Dialect___init__) l8 c8 k8
 have b8 : Binds K (PySem.W.fnOf "__init__" "Dialect.__init__" (defArgs s_Dialect___init__) (defBody s_Dialect___init__) (defScope s_Dialect___init__) (.ref dt_Dialect___init__) kV8 dc8 pm8 an8 cd8 ct8) ["self", "parts", "quotes", "frees", "twin", "wide", "thin", "stray"] [] := fun s us hK hl => match us, hl with | [_, _, _, _, _, _, _, _], _ => BindsTo.of_defaults (T := dt_Dialect___init__) rfl (hK _ _ d8) rfl rfl rfl
 have F9 := fun_mk (st := s_Dialect_told) l9 c9 k9
 have b9 := F9.binds (ps := ["self"]) fun _ _ _ _ _ _ us hl => match us, hl with | [_], _ => rfl
 have F10 := fun_mk (st := s_dialect_of) l10 c10 k10
 have b10 := F10.binds (ps := ["told"]) fun _ _ _ _ _ _ us hl => match us, hl with | [_], _ => rfl
 have F11 := fun_mk (st := s_step_at_beginning) l11 c11 k11
 have b11 := F11.binds (ps := ["dialect", "state", "sign"]) fun _ _ _ _ _ _ us hl => match us, hl with | [_, _, _], _ => rfl
 have F12 := fun_mk (st := s_step_in_plain) l12 c12 k12
 have b12 := F12.binds (ps := ["dialect", "sign"]) fun _ _ _ _ _ _ us hl => match us, hl with | [_, _], _ => rfl
 have F13 := fun_mk (st := s_step_within) l13 c13 k13
 have b13 := F13.binds (ps := ["dialect", "quote", "sign"]) fun _ _ _ _ _ _ us hl => match us, hl with | [_, _, _], _ => rfl
 have F14 := fun_mk (st := s_step_behind) l14 c14 k14
 have b14 := F14.binds (ps := ["dialect", "sign"]) fun _ _ _ _ _ _ us hl => match us, hl with | [_, _], _ => rfl
 have F15 := fun_mk (st := s_step_in_doubt) l15 c15 k15
 have b15 := F15.binds (ps := ["dialect", "quote", "sign"]) fun _ _ _ _ _ _ us hl => match us, hl with | [_, _, _], _ => rfl
 have F16 := fun_mk (st := s_step_freed) l16 c16 k16
 have b16 := F16.binds (ps := ["dialect", "quote", "sign"]) fun _ _ _ _ _ _ us hl => match us, hl with | [_, _, _], _ => rfl
 have F17 := fun_mk (st := s_Turn___init__) l17 c17 k17
 have b17 := F17.binds (ps := ["self", "dialect"]) fun _ _ _ _ _ _ us hl => match us, hl with | [_, _], _ => rfl
 have F18 := fun_mk (st := s_Turn_step) l18 c18 k18
 have b18 := F18.binds (ps := ["self", "state", "sign"]) fun _ _ _ _ _ _ us hl => match us, hl with | [_, _, _], _ => rfl
 have F19 := fun_mk (st := s_check_text) l19 c19 k19
 have b19 := F19.binds (ps := ["thing"]) fun _ _ _ _ _ _ us hl => match us, hl with | [_], _ => rfl
 have F20 := fun_mk (st := s_walk) l20 c20 k20
 have b20 := F20.binds (ps := ["dialect", "text"]) fun _ _ _ _ _ _ us hl => match us, hl with | [_, _], _ => rfl
 have F21 := fun_mk (st := s_end_of) l21 c21 k21
 have b21 := F21.binds (ps := ["walked"]) fun _ _ _ _ _ _ us hl => match us, hl with | [_], _ => rfl
 have F22 := fun_mk (st := s_table_of) l22 c22 k22
 have b22 := F22.binds (ps := ["text", "kinds"]) fun _ _ _ _ _ _ us hl => match us, hl with | [_, _], _ => rfl
 have F23 := fun_mk (st := s_uneven_row) l23 c23 k23
 have b23 := F23.binds (ps := ["kinds"]) fun _ _ _ _ _ _ us hl => match us, hl with | [_], _ => rfl
 have F24 := fun_mk (st := s_fall_of) l24 c24 k24
 have b24 := F24.binds (ps := ["walked", "even"]) fun _ _ _ _ _ _ us hl => match us, hl with | [_, _], _ => rfl
 have F25 := funD_mk (st := s_fallen) l25 c25 k25
 have b25 : Binds K (PySem.W.fnOf "fallen" "fallen" (defArgs s_fallen) (defBody s_fallen) (defScope s_fallen) (.ref dt_fallen) kV25 dc25 pm25 an25 cd25 ct25) ["dialects", "text", "even"] [] := fun s us hK hl => match us, hl with | [_, _, _], _ => BindsTo.of_defaults (T := dt_fallen) rfl (hK _ _ d25) rfl rfl rfl
 have F26 := fun_mk (st := s_takers) l26 c26 k26
 have b26 := F26.binds (ps := ["dialects", "text", "even"]) fun _ _ _ _ _ _ us hl => match us, hl with | [_, _, _], _ => rfl
 have F27 := fun_mk (st := s_last_of) l27 c27 k27
 have b27 := F27.binds (ps := ["falls"]) fun _ _ _ _ _ _ us hl => match us, hl with | [_], _ => rfl
 have F28 := funD_mk (st := s_finding) l28 c28 k28
 have b28 : Binds K (PySem.W.fnOf "finding" "finding" (defArgs s_finding) (defBody s_finding) (defScope s_finding) (.ref dt_finding) kV28 dc28 pm28 an28 cd28 ct28) ["dialects", "text", "even"] [] := fun s us hK hl => match us, hl with | [_, _, _], _ => BindsTo.of_defaults (T := dt_finding) rfl (hK _ _ d28) rfl rfl rfl
 have F29 := fun_mk (st := s_takes_all) l29 c29 k29
 have b29 := F29.binds (ps := ["dialect", "texts", "even"]) fun _ _ _ _ _ _ us hl => match us, hl with | [_, _, _], _ => rfl
 have F30 := funD_mk (st := s_found_all) l30 c30 k30
 have b30 : Binds K (PySem.W.fnOf "found_all" "found_all" (defArgs s_found_all) (defBody s_found_all) (defScope s_found_all) (.ref dt_found_all) kV30 dc30 pm30 an30 cd30 ct30) ["dialects", "texts", "even"] [] := fun s us hK hl => match us, hl with | [_, _, _], _ => BindsTo.of_defaults (T := dt_found_all) rfl (hK _ _ d30) rfl rfl rfl
 have F31 := funD_mk (st := s_common) l31 c31 k31
 have b31 : Binds K (PySem.W.fnOf "common" "common" (defArgs s_common) (defBody s_common) (defScope s_common) (.ref dt_common) kV31 dc31 pm31 an31 cd31 ct31) ["dialects", "text", "even"] [] := fun s us hK hl => match us, hl with | [_, _, _], _ => BindsTo.of_defaults (T := dt_common) rfl (hK _ _ d31) rfl rfl rfl
 have F32 := fun_mk (st := s__law_cell_at) l32 c32 k32
 have b32 := F32.binds (ps := ["_law_script", "_law_k"]) fun _ _ _ _ _ _ us hl => match us, hl with | [_, _], _ => rfl
 have F33 := fun_mk (st := s__law_mixed) l33 c33 k33
 have b33 := F33.binds (ps := ["_law_number_here", "_law_salt"]) fun _ _ _ _ _ _ us hl => match us, hl with | [_, _], _ => rfl
 have F34 := fun_mk (st := s__law_number) l34 c34 k34
 have b34 := F34.binds (ps := ["_law_cell", "_law_salt"]) fun _ _ _ _ _ _ us hl => match us, hl with | [_, _], _ => rfl
 have F35 := fun_mk (st := s__law_some) l35 c35 k35
 have b35 := F35.binds (ps := ["_law_number_here", "_law_many", "_law_menu_here"]) fun _ _ _ _ _ _ us hl => match us, hl with | [_, _, _], _ => rfl
 have F36 := fun_mk (st := s__law_menus) l36 c36 k36
 have b36 := F36.binds (ps := ["_law_way"]) fun _ _ _ _ _ _ us hl => match us, hl with | [_], _ => rfl
 have F37 := fun_mk (st := s__law_told) l37 c37 k37
 have b37 := F37.binds (ps := ["_law_cell"]) fun _ _ _ _ _ _ us hl => match us, hl with | [_], _ => rfl
 have F38 := fun_mk (st := s__law_drawn) l38 c38 k38
 have b38 := F38.binds (ps := ["_law_cell", "_law_many"]) fun _ _ _ _ _ _ us hl => match us, hl with | [_, _], _ => rfl
 have F39 := fun_mk (st := s__law_flags) l39 c39 k39
 have b39 := F39.binds (ps := ["_law_e"]) fun _ _ _ _ _ _ us hl => match us, hl with | [_], _ => rfl
 have F40 := fun_mk (st := s__law_near) l40 c40 k40
 have b40 := F40.binds (ps := ["_law_told_here", "_law_x"]) fun _ _ _ _ _ _ us hl => match us, hl with | [_, _], _ => rfl
 have F41 := fun_mk (st := s__law_tolds) l41 c41 k41
 have b41 := F41.binds (ps := ["_law_cells", "_law_many"]) fun _ _ _ _ _ _ us hl => match us, hl with | [_, _], _ => rfl
 have F42 := fun_mk (st := s__law_menu) l42 c42 k42
 have b42 := F42.binds (ps := ["_law_tolds_here"]) fun _ _ _ _ _ _ us hl => match us, hl with | [_], _ => rfl
 have F43 := fun_mk (st := s__law_text) l43 c43 k43
 have b43 := F43.binds (ps := ["_law_cell", "_law_tolds_here", "_law_most"]) fun _ _ _ _ _ _ us hl => match us, hl with | [_, _, _], _ => rfl
 have F44 := fun_mk (st := s__law_no_text) l44 c44 k44
 have b44 := F44.binds (ps := ["_law_text_here", "_law_xs", "_law_cell"]) fun _ _ _ _ _ _ us hl => match us, hl with | [_, _, _], _ => rfl
 have F45 := fun_mk (st := s__law_refused) l45 c45 k45
 have b45 := F45.binds (ps := ["_law_dialects", "_law_wrong", "_law_texts", "_law_way"]) fun _ _ _ _ _ _ us hl => match us, hl with | [_, _, _, _], _ => rfl
 have F46 := fun_mk (st := s_law) l46 c46 k46
 have b46 := F46.binds (ps := ["_law_script"]) fun _ _ _ _ _ _ us hl => match us, hl with | [_], _ => rfl
 have bf0 : ∃ ds, Vals [V.bl false] ds ∧ Binds K (PySem.W.fnOf "finding" "finding" (defArgs s_finding) (defBody s_finding) (defScope s_finding) (.ref dt_finding) kV28 dc28 pm28 an28 cd28 ct28) ["dialects", "text", "even"] ds := ⟨[.bool false], (.cons rfl .nil), fun s us hK hl => by
   have hn : us.length = 2 := by rw [List.length_append] at hl; simp only [List.length_cons, List.length_nil] at hl; omega
   exact match us, hn with | [_, _], _ => BindsTo.of_defaults (T := dt_finding) rfl (hK _ _ d28) rfl rfl rfl⟩
 have bf1 : ∃ ds, Vals [V.bl false] ds ∧ Binds K (PySem.W.fnOf "common" "common" (defArgs s_common) (defBody s_common) (defScope s_common) (.ref dt_common) kV31 dc31 pm31 an31 cd31 ct31) ["dialects", "text", "even"] ds := ⟨[.bool false], (.cons rfl .nil), fun s us hK hl => by
   have hn : us.length = 2 := by rw [List.length_append] at hl; simp only [List.length_cons, List.length_nil] at hl; omega
   exact match us, hn with | [_, _], _ => BindsTo.of_defaults (T := dt_common) rfl (hK _ _ d31) rfl rfl rfl⟩
 have bf2 : ∃ ds, Vals [V.bl false] ds ∧ Binds K (PySem.W.fnOf "found_all" "found_all" (defArgs s_found_all) (defBody s_found_all) (defScope s_found_all) (.ref dt_found_all) kV30 dc30 pm30 an30 cd30 ct30) ["dialects", "texts", "even"] ds := ⟨[.bool false], (.cons rfl .nil), fun s us hK hl => by
   have hn : us.length = 2 := by rw [List.length_append] at hl; simp only [List.length_cons, List.length_nil] at hl; omega
   exact match us, hn with | [_, _], _ => BindsTo.of_defaults (T := dt_found_all) rfl (hK _ _ d30) rfl rfl rfl⟩
 have bf3 : ∃ ds, Vals [V.bl false] ds ∧ Binds K (PySem.W.fnOf "fallen" "fallen" (defArgs s_fallen) (defBody s_fallen) (defScope s_fallen) (.ref dt_fallen) kV25 dc25 pm25 an25 cd25 ct25) ["dialects", "text", "even"] ds := ⟨[.bool false], (.cons rfl .nil), fun s us hK hl => by
   have hn : us.length = 2 := by rw [List.length_append] at hl; simp only [List.length_cons, List.length_nil] at hl; omega
   exact match us, hn with | [_, _], _ => BindsTo.of_defaults (T := dt_fallen) rfl (hK _ _ d25) rfl rfl rfl⟩
 exact ⟨PySem.W.fnOf "law" "law" (defArgs s_law) (defBody s_law) (defScope s_law) .none kV46 dc46 pm46 an46 cd46 ct46, fun s v => .of_eq rfl, fun base _ _ => ok_law ⟨F0, b0,
   F1, b1,
   F2, b2,
   F3, b3,
   F4, b4, PySem.W.mg_of X G a4,
   F5, b5, PySem.W.mg_of X G a5,
   F6, b6, PySem.W.mg_of X G a6,
   F7, b7, PySem.W.mg_of X G a7,
   F8, b8,
   F9, b9, ⟨a9, i9, k9⟩,
   F10, b10, PySem.W.mg_of X G a10,
   F11, b11, PySem.W.mg_of X G a11,
   F12, b12, PySem.W.mg_of X G a12,
   F13, b13, PySem.W.mg_of X G a13,
   F14, b14, PySem.W.mg_of X G a14,
   F15, b15, PySem.W.mg_of X G a15,
   F16, b16, PySem.W.mg_of X G a16,
   F17, b17,
   F18, b18, ⟨a18, i18, k18⟩,
   F19, b19, PySem.W.mg_of X G a19,
   F20, b20, PySem.W.mg_of X G a20,
   F21, b21, PySem.W.mg_of X G a21,
   F22, b22, PySem.W.mg_of X G a22,
   F23, b23, PySem.W.mg_of X G a23,
   F24, b24, PySem.W.mg_of X G a24,
   F25, b25, PySem.W.mg_of X G a25,
   F26, b26, PySem.W.mg_of X G a26,
   F27, b27, PySem.W.mg_of X G a27,
   F28, b28, PySem.W.mg_of X G a28,
   F29, b29, PySem.W.mg_of X G a29,
   F30, b30, PySem.W.mg_of X G a30,
   F31, b31, PySem.W.mg_of X G a31,
   F32, b32, PySem.W.mg_of X G a32,
   F33, b33, PySem.W.mg_of X G a33,
   F34, b34, PySem.W.mg_of X G a34,
   F35, b35, PySem.W.mg_of X G a35,
   F36, b36, PySem.W.mg_of X G a36,
   F37, b37, PySem.W.mg_of X G a37,
   F38, b38, PySem.W.mg_of X G a38,
   F39, b39, PySem.W.mg_of X G a39,
   F40, b40, PySem.W.mg_of X G a40,
   F41, b41, PySem.W.mg_of X G a41,
   F42, b42, PySem.W.mg_of X G a42,
   F43, b43, PySem.W.mg_of X G a43,
   F44, b44, PySem.W.mg_of X G a44,
   F45, b45, PySem.W.mg_of X G a45,
   F46, b46, PySem.W.mg_of X G a46,
   ⟨pg_Dialect, hd_Dialect, po_Dialect, sa_Dialect⟩, PySem.W.mg_of X G aC_Dialect, ⟨mk_Dialect, a8, i8, kc_Dialect⟩,
   n_Dialect_parts,
   n_Dialect_quotes,
   n_Dialect_frees,
   n_Dialect_twin,
   n_Dialect_wide,
   n_Dialect_thin,
   n_Dialect_stray,
   ⟨pg_Turn, hd_Turn, po_Turn, sa_Turn⟩, PySem.W.mg_of X G aC_Turn, ⟨mk_Turn, a17, i17, kc_Turn⟩,
   n_Turn_dialect,
   bf0,
   bf1,
   bf2,
   bf3,
   PySem.W.mg_of X G aX_DialectError, ⟨⟨_, _, _, _, _, _, _, _, _, _, _, _, _, _, ox_DialectError⟩, ⟨_, _, _, _, _, nx_DialectError, w_ax_DialectError⟩, ix_DialectError⟩,
   ⟨xs_DialectError, xr_DialectError, xc_DialectError⟩,
   PySem.W.mg_of X G aX_NoText, ⟨⟨_, _, _, _, _, _, _, _, _, _, _, _, _, _, ox_NoText⟩, ⟨_, _, _, _, _, nx_NoText, w_ax_NoText⟩, ix_NoText⟩,
   PySem.W.mg_of X G aX_NoTable, ⟨⟨_, _, _, _, _, _, _, _, _, _, _, _, _, _, ox_NoTable⟩, ⟨_, _, _, _, _, nx_NoTable, w_ax_NoTable⟩, ix_NoTable⟩,
   PySem.W.mg_of X G aX_NoDialect, ⟨⟨_, _, _, _, _, _, _, _, _, _, _, _, _, _, ox_NoDialect⟩, ⟨_, _, _, _, _, nx_NoDialect, w_ax_NoDialect⟩, ix_NoDialect⟩,
   PySem.W.mg_of X G aX_NoFamily, ⟨⟨_, _, _, _, _, _, _, _, _, _, _, _, _, _, ox_NoFamily⟩, ⟨_, _, _, _, _, nx_NoFamily, w_ax_NoFamily⟩, ix_NoFamily⟩,
   PySem.W.mg_of X G aX_NoMost, ⟨⟨_, _, _, _, _, _, _, _, _, _, _, _, _, _, ox_NoMost⟩, ⟨_, _, _, _, _, nx_NoMost, w_ax_NoMost⟩, ix_NoMost⟩,
   PySem.W.mg_of X G aX_NoAsk, ⟨⟨_, _, _, _, _, _, _, _, _, _, _, _, _, _, ox_NoAsk⟩, ⟨_, _, _, _, _, nx_NoAsk, w_ax_NoAsk⟩, ix_NoAsk⟩,
   PySem.W.mg_of X G aX_NoRow, ⟨⟨_, _, _, _, _, _, _, _, _, _, _, _, _, _, ox_NoRow⟩, ⟨_, _, _, _, _, nx_NoRow, w_ax_NoRow⟩, ix_NoRow⟩,
   PySem.W.mg_of X G aX_NoName, ⟨⟨_, _, _, _, _, _, _, _, _, _, _, _, _, _, ox_NoName⟩, ⟨_, _, _, _, _, nx_NoName, w_ax_NoName⟩, ix_NoName⟩,
   kx_NoName, ⟨_, lx_NoName, rfl⟩,
   ⟨xn_NoName_name, xsa_NoName, xga_NoName, xgx_NoName, xhd_NoName⟩,
   PySem.W.mg_of X G aX_TooMany, ⟨⟨_, _, _, _, _, _, _, _, _, _, _, _, _, _, ox_TooMany⟩, ⟨_, _, _, _, _, nx_TooMany, w_ax_TooMany⟩, ix_TooMany⟩,
   kx_TooMany, ⟨_, lx_TooMany, rfl⟩,
   ⟨xn_TooMany_most, xsa_TooMany, xga_TooMany, xgx_TooMany, xhd_TooMany⟩,
   PySem.W.mg_of X G aX_Broken, ⟨⟨_, _, _, _, _, _, _, _, _, _, _, _, _, _, ox_Broken⟩, ⟨_, _, _, _, _, nx_Broken, w_ax_Broken⟩, ix_Broken⟩,
   kx_Broken, ⟨_, lx_Broken, rfl⟩,
   ⟨xn_Broken_row, xsa_Broken, xga_Broken, xgx_Broken, xhd_Broken⟩,
   ⟨xn_Broken_place, xsa_Broken, xga_Broken, xgx_Broken, xhd_Broken⟩,
   ⟨xn_Broken_word, xsa_Broken, xga_Broken, xgx_Broken, xhd_Broken⟩,
   PySem.W.mg_of X G aX_NoWriting, ⟨⟨_, _, _, _, _, _, _, _, _, _, _, _, _, _, ox_NoWriting⟩, ⟨_, _, _, _, _, nx_NoWriting, w_ax_NoWriting⟩, ix_NoWriting⟩,
   kx_NoWriting, ⟨_, lx_NoWriting, rfl⟩,
   ⟨xn_NoWriting_row, xsa_NoWriting, xga_NoWriting, xgx_NoWriting, xhd_NoWriting⟩,
   ⟨xn_NoWriting_cell, xsa_NoWriting, xga_NoWriting, xgx_NoWriting, xhd_NoWriting⟩,
   ⟨xga_NoText, xgx_NoText, xhd_NoText, xka_NoText, xkn, xkt, xkm_NoText⟩,
   kx_NoText,
   kit_t kv_NoText,
   kit_x (XCl.mk ⟨_, _, _, _, _, _, _, _, _, _, _, _, _, _, ox_NoText⟩ ⟨_, _, _, _, _, nx_NoText, w_ax_NoText⟩ ix_NoText) (XCl.mk ⟨_, _, _, _, _, _, _, _, _, _, _, _, _, _, ox_DialectError⟩ ⟨_, _, _, _, _, nx_DialectError, w_ax_DialectError⟩ ix_DialectError) ki_NoText_DialectError,
   kit_x (XCl.mk ⟨_, _, _, _, _, _, _, _, _, _, _, _, _, _, ox_NoText⟩ ⟨_, _, _, _, _, nx_NoText, w_ax_NoText⟩ ix_NoText) (XCl.mk ⟨_, _, _, _, _, _, _, _, _, _, _, _, _, _, ox_NoText⟩ ⟨_, _, _, _, _, nx_NoText, w_ax_NoText⟩ ix_NoText) ki_NoText_NoText,
   kit_x (XCl.mk ⟨_, _, _, _, _, _, _, _, _, _, _, _, _, _, ox_NoText⟩ ⟨_, _, _, _, _, nx_NoText, w_ax_NoText⟩ ix_NoText) (XCl.mk ⟨_, _, _, _, _, _, _, _, _, _, _, _, _, _, ox_NoTable⟩ ⟨_, _, _, _, _, nx_NoTable, w_ax_NoTable⟩ ix_NoTable) ki_NoText_NoTable,
   kit_x (XCl.mk ⟨_, _, _, _, _, _, _, _, _, _, _, _, _, _, ox_NoText⟩ ⟨_, _, _, _, _, nx_NoText, w_ax_NoText⟩ ix_NoText) (XCl.mk ⟨_, _, _, _, _, _, _, _, _, _, _, _, _, _, ox_NoDialect⟩ ⟨_, _, _, _, _, nx_NoDialect, w_ax_NoDialect⟩ ix_NoDialect) ki_NoText_NoDialect,
   kit_x (XCl.mk ⟨_, _, _, _, _, _, _, _, _, _, _, _, _, _, ox_NoText⟩ ⟨_, _, _, _, _, nx_NoText, w_ax_NoText⟩ ix_NoText) (XCl.mk ⟨_, _, _, _, _, _, _, _, _, _, _, _, _, _, ox_NoFamily⟩ ⟨_, _, _, _, _, nx_NoFamily, w_ax_NoFamily⟩ ix_NoFamily) ki_NoText_NoFamily,
   kit_x (XCl.mk ⟨_, _, _, _, _, _, _, _, _, _, _, _, _, _, ox_NoText⟩ ⟨_, _, _, _, _, nx_NoText, w_ax_NoText⟩ ix_NoText) (XCl.mk ⟨_, _, _, _, _, _, _, _, _, _, _, _, _, _, ox_NoMost⟩ ⟨_, _, _, _, _, nx_NoMost, w_ax_NoMost⟩ ix_NoMost) ki_NoText_NoMost,
   kit_x (XCl.mk ⟨_, _, _, _, _, _, _, _, _, _, _, _, _, _, ox_NoText⟩ ⟨_, _, _, _, _, nx_NoText, w_ax_NoText⟩ ix_NoText) (XCl.mk ⟨_, _, _, _, _, _, _, _, _, _, _, _, _, _, ox_NoAsk⟩ ⟨_, _, _, _, _, nx_NoAsk, w_ax_NoAsk⟩ ix_NoAsk) ki_NoText_NoAsk,
   kit_x (XCl.mk ⟨_, _, _, _, _, _, _, _, _, _, _, _, _, _, ox_NoText⟩ ⟨_, _, _, _, _, nx_NoText, w_ax_NoText⟩ ix_NoText) (XCl.mk ⟨_, _, _, _, _, _, _, _, _, _, _, _, _, _, ox_NoRow⟩ ⟨_, _, _, _, _, nx_NoRow, w_ax_NoRow⟩ ix_NoRow) ki_NoText_NoRow,
   kit_x (XCl.mk ⟨_, _, _, _, _, _, _, _, _, _, _, _, _, _, ox_NoText⟩ ⟨_, _, _, _, _, nx_NoText, w_ax_NoText⟩ ix_NoText) (XCl.mk ⟨_, _, _, _, _, _, _, _, _, _, _, _, _, _, ox_NoName⟩ ⟨_, _, _, _, _, nx_NoName, w_ax_NoName⟩ ix_NoName) ki_NoText_NoName,
   kit_x (XCl.mk ⟨_, _, _, _, _, _, _, _, _, _, _, _, _, _, ox_NoText⟩ ⟨_, _, _, _, _, nx_NoText, w_ax_NoText⟩ ix_NoText) (XCl.mk ⟨_, _, _, _, _, _, _, _, _, _, _, _, _, _, ox_TooMany⟩ ⟨_, _, _, _, _, nx_TooMany, w_ax_TooMany⟩ ix_TooMany) ki_NoText_TooMany,
   kit_x (XCl.mk ⟨_, _, _, _, _, _, _, _, _, _, _, _, _, _, ox_NoText⟩ ⟨_, _, _, _, _, nx_NoText, w_ax_NoText⟩ ix_NoText) (XCl.mk ⟨_, _, _, _, _, _, _, _, _, _, _, _, _, _, ox_Broken⟩ ⟨_, _, _, _, _, nx_Broken, w_ax_Broken⟩ ix_Broken) ki_NoText_Broken,
   kit_x (XCl.mk ⟨_, _, _, _, _, _, _, _, _, _, _, _, _, _, ox_NoText⟩ ⟨_, _, _, _, _, nx_NoText, w_ax_NoText⟩ ix_NoText) (XCl.mk ⟨_, _, _, _, _, _, _, _, _, _, _, _, _, _, ox_NoWriting⟩ ⟨_, _, _, _, _, nx_NoWriting, w_ax_NoWriting⟩ ix_NoWriting) ki_NoText_NoWriting,
   PySem.W.mg_none_of X G z_ValueError,
   PySem.W.mg_none_of X G z_all,
   PySem.W.mg_none_of X G z_any,
   PySem.W.mg_none_of X G z_bool,
   PySem.W.mg_none_of X G z_enumerate,
   PySem.W.mg_none_of X G z_isinstance,
   PySem.W.mg_none_of X G z_len,
   PySem.W.mg_none_of X G z_list,
   PySem.W.mg_none_of X G z_max,
   PySem.W.mg_none_of X G z_ord,
   PySem.W.mg_none_of X G z_range,
   PySem.W.mg_none_of X G z_sorted,
   PySem.W.mg_none_of X G z_str,
   PySem.W.mg_none_of X G z_tuple,
   PySem.W.mg_none_of X G z_zip,
   ⟨_, PySem.W.mg_of X G v_LINE⟩, w_LINE,
   ⟨_, PySem.W.mg_of X G v_MOST_SIGNS⟩,
   PySem.W.mg_of X G v_START, ⟨_, _, _, t_START, rfl, rfl, (by show 2 ≤ sizeLine; decide), (.cons ⟨_, rfl⟩ (.cons ⟨_, rfl⟩ .nil))⟩⟩⟩
theorem walk {l : PySem.W.OpenLaw} {q : Program} {loose : List Str} {XP : (Str → Option Value) → Heap → Prop} {YP : World → Heap → Prop} {d : DefRec} {K : Params → PySem.W.Frag} (hn : l.most = some 63) (hdf : d.params.defaults = [])
   (hY : ∀ (w : World) (h : Heap), YP w h → (K w.params).In h)
   (F : ∀ (w : World) (mg : Str → Option Value) (fa : Addr) (h : Heap), (K w.params).In h → h.Ns mainGlobals mg → mg d.name = some (.ref fa) →
     ∃ fd : FuncData, (∀ (s : Shared) (u : Value), BindsTo s fd ⟨[u], []⟩ [("_law_script", u)]) ∧ ∀ base : Heap, (K w.params).In base → base.Ns mainGlobals mg → FnOk l.prog w (K w.params) mg base CX0 12 fa fd ["_law_script"] (sp_law (K w.params))) :
   PySem.W.WalkO q loose XP YP l.row.toRowW d [] (fun f vs => PySem.call f vs) :=
 L2.walk_of (n := 63) (k := 12) (x := "_law_script") (CX := fun _ => CX0) (sp := fun w => sp_law (K w.params)) hn (by decide) hdf ⟨rfl, by decide, by decide⟩ hY F (fun _ _ a ns hl _ hS => ⟨a, ns, rfl, hS, hl, fun _ => rfl⟩) fun _ _ _ _ _ z => z
end My
def PySem.W.Fast.tw9167001003683076767 : Unit := ()
def PySem.W.Fast.tw16769579199974885994 : Unit := ()
def PySem.W.Fast.tw16282933497186763580 : Unit := ()
def PySem.W.Fast.tw3964789611702597601 : Unit := ()
def PySem.W.Fast.tw16502519524054339803 : Unit := ()
def PySem.W.Fast.tw5379737087163246960 : Unit := ()
def PySem.W.Fast.tw849834996172133908 : Unit := ()
def PySem.W.Fast.tw5097732280070419885 : Unit := ()
def PySem.W.Fast.tw2162313510344967273 : Unit := ()
def PySem.W.Fast.tw3790749012568166313 : Unit := ()
def PySem.W.Fast.tw9083620827466427924 : Unit := ()
def PySem.W.Fast.tw1250152192945953592 : Unit := ()
def PySem.W.Fast.tw13788204816265962267 : Unit := ()
def PySem.W.Fast.tw16337119774131615987 : Unit := ()
def PySem.W.Fast.tw16000614921292258197 : Unit := ()
def PySem.W.Fast.tw9293657841766059080 : Unit := ()
def PySem.W.Fast.tw10929186213593581571 : Unit := ()
def PySem.W.Fast.tw2316315718683170256 : Unit := ()
def PySem.W.Fast.tw5021918498203138666 : Unit := ()
def PySem.W.Fast.tw7946422438792154617 : Unit := ()
def PySem.W.Fast.tw1960857894571109052 : Unit := ()
def PySem.W.Fast.tw2907110348050751333 : Unit := ()
def PySem.W.Fast.tw5330375331255927454 : Unit := ()
def PySem.W.Fast.tw12685496503979445967 : Unit := ()
def PySem.W.Fast.tw7000044697859367503 : Unit := ()
def PySem.W.Fast.tw10950738688127482304 : Unit := ()
def PySem.W.Fast.tw15025075269632630819 : Unit := ()
def PySem.W.Fast.tw14600270543139928067 : Unit := ()
def PySem.W.Fast.tw8956709913009865940 : Unit := ()
def PySem.W.Fast.tw2911747751317364039 : Unit := ()
def PySem.W.Fast.tw10288630101939999414 : Unit := ()
def PySem.W.Fast.tw6536831539423198629 : Unit := ()
def PySem.W.Fast.tw11895650897040615118 : Unit := ()
def PySem.W.Fast.tw15516642661189714318 : Unit := ()
def PySem.W.Fast.tw3219351432415454208 : Unit := ()
def PySem.W.Fast.tw624402343121716484 : Unit := ()
def PySem.W.Fast.tw15154134792708916676 : Unit := ()
def PySem.W.Fast.tw2984688646765191517 : Unit := ()
def PySem.W.Fast.tw16688843989865541876 : Unit := ()
open PySem PySem.W PyProof.Rows
set_option maxRecDepth 100000 in
set_option maxHeartbeats 0 in
theorem PySem.Challenge.cw_dialecthall_k57_texts_that_are_none_holds : PySem.Challenge.rw_dialecthall_k57_texts_that_are_none.Holds := by
 w_on; o_law; k_head; (case hw => w_witness2)
 k_fill
 refine My.walk (l := PySem.Challenge.rw_dialecthall_k57_texts_that_are_none) rfl rfl (fun w h Y => PySem.W.kIn_of Y) ?F
 case F =>
   intro w mg fa h KX G hmg
   refine' My.all_mk KX G hmg ?aC_Dialect ?aC_Turn ?aX_DialectError ?aX_NoText ?aX_NoTable ?aX_NoDialect ?aX_NoFamily ?aX_NoMost ?aX_NoAsk ?aX_NoRow ?aX_NoName ?aX_TooMany ?aX_Broken ?aX_NoWriting ?l0 ?c0 ?k0 ?l1 ?c1 ?k1 ?l2 ?c2 ?k2 ?l3 ?c3 ?k3 ?a4 ?l4 ?c4 ?k4 ?a5 ?l5 ?c5 ?k5 ?a6 ?l6 ?c6 ?k6 ?a7 ?l7 ?c7 ?k7 ?a8 ?i8 ?l8 ?c8 ?k8 ?d8 ?a9 ?i9 ?l9 ?c9 ?k9 ?a10 ?l10 ?c10 ?k10 ?a11 ?l11 ?c11 ?k11 ?a12 ?l12 ?c12 ?k12 ?a13 ?l13 ?c13 ?k13 ?a14 ?l14 ?c14 ?k14 ?a15 ?l15 ?c15 ?k15 ?a16 ?l16 ?c16 ?k16 ?a17 ?i17 ?l17 ?c17 ?k17 ?a18 ?i18 ?l18 ?c18 ?k18 ?a19 ?l19 ?c19 ?k19 ?a20 ?l20 ?c20 ?k20 ?a21 ?l21 ?c21 ?k21 ?a22 ?l22 ?c22 ?k22 ?a23 ?l23 ?c23 ?k23 ?a24 ?l24 ?c24 ?k24 ?a25 ?l25 ?c25 ?k25 ?d25 ?a26 ?l26 ?c26 ?k26 ?a27 ?l27 ?c27 ?k27 ?a28 ?l28 ?c28 ?k28 ?d28 ?a29 ?l29 ?c29 ?k29 ?a30 ?l30 ?c30 ?k30 ?d30 ?a31 ?l31 ?c31 ?k31 ?d31 ?a32 ?l32 ?c32 ?k32 ?a33 ?l33 ?c33 ?k33 ?a34 ?l34 ?c34 ?k34 ?a35 ?l35 ?c35 ?k35 ?a36 ?l36 ?c36 ?k36 ?a37 ?l37 ?c37 ?k37 ?a38 ?l38 ?c38 ?k38 ?a39 ?l39 ?c39 ?k39 ?a40 ?l40 ?c40 ?k40 ?a41 ?l41 ?c41 ?k41 ?a42 ?l42 ?c42 ?k42 ?a43 ?l43 ?c43 ?k43 ?a44 ?l44 ?c44 ?k44 ?a45 ?l45 ?c45 ?k45 ?a46 ?l46 ?c46 ?k46 ?pg_Dialect ?hd_Dialect ?po_Dialect ?sa_Dialect ?mk_Dialect ?kc_Dialect ?n_Dialect_parts ?n_Dialect_quotes ?n_Dialect_frees ?n_Dialect_twin ?n_Dialect_wide ?n_Dialect_thin ?n_Dialect_stray ?pg_Turn ?hd_Turn ?po_Turn ?sa_Turn ?mk_Turn ?kc_Turn ?n_Turn_dialect ?ox_DialectError ?nx_DialectError ?w_ax_DialectError ?ix_DialectError ?xs_DialectError ?xr_DialectError ?xc_DialectError ?ox_NoText ?nx_NoText ?w_ax_NoText ?ix_NoText ?ox_NoTable ?nx_NoTable ?w_ax_NoTable ?ix_NoTable ?ox_NoDialect ?nx_NoDialect ?w_ax_NoDialect ?ix_NoDialect ?ox_NoFamily ?nx_NoFamily ?w_ax_NoFamily ?ix_NoFamily ?ox_NoMost ?nx_NoMost ?w_ax_NoMost ?ix_NoMost ?ox_NoAsk ?nx_NoAsk ?w_ax_NoAsk ?ix_NoAsk ?ox_NoRow ?nx_NoRow ?w_ax_NoRow ?ix_NoRow ?ox_NoName ?nx_NoName ?w_ax_NoName ?ix_NoName ?kx_NoName ?lx_NoName ?xsa_NoName ?xga_NoName ?xgx_NoName ?xhd_NoName ?xn_NoName_name ?ox_TooMany ?nx_TooMany ?w_ax_TooMany ?ix_TooMany ?kx_TooMany ?lx_TooMany ?xsa_TooMany ?xga_TooMany ?xgx_TooMany ?xhd_TooMany ?xn_TooMany_most ?ox_Broken ?nx_Broken ?w_ax_Broken ?ix_Broken ?kx_Broken ?lx_Broken ?xsa_Broken ?xga_Broken ?xgx_Broken ?xhd_Broken ?xn_Broken_row ?xn_Broken_place ?xn_Broken_word ?ox_NoWriting ?nx_NoWriting ?w_ax_NoWriting ?ix_NoWriting ?kx_NoWriting ?lx_NoWriting ?xsa_NoWriting ?xga_NoWriting ?xgx_NoWriting ?xhd_NoWriting ?xn_NoWriting_row ?xn_NoWriting_cell ?xkn ?xkt ?xga_NoText ?xgx_NoText ?xhd_NoText ?kx_NoText ?xka_NoText ?xkm_NoText ?kv_NoText ?ki_NoText_DialectError ?ki_NoText_NoText ?ki_NoText_NoTable ?ki_NoText_NoDialect ?ki_NoText_NoFamily ?ki_NoText_NoMost ?ki_NoText_NoAsk ?ki_NoText_NoRow ?ki_NoText_NoName ?ki_NoText_TooMany ?ki_NoText_Broken ?ki_NoText_NoWriting ?z_ValueError ?z_all ?z_any ?z_bool ?z_enumerate ?z_isinstance ?z_len ?z_list ?z_max ?z_ord ?z_range ?z_sorted ?z_str ?z_tuple ?z_zip ?v_LINE ?w_LINE ?v_MOST_SIGNS ?v_START ?t_START
   (case aX_DialectError => k_is)
   (case aX_NoText => k_is)
   (case aX_NoTable => k_is)
   (case aX_NoDialect => k_is)
   (case aX_NoFamily => k_is)
   (case aX_NoMost => k_is)
   (case aX_NoAsk => k_is)
   (case aX_NoRow => k_is)
   (case aX_NoName => k_is)
   (case aX_TooMany => k_is)
   (case aX_Broken => k_is)
   (case aX_NoWriting => k_is)
   (case ox_DialectError => k_is)
   (case nx_DialectError => k_is)
   (case ix_DialectError => k_is)
   (case ox_NoText => k_is)
   (case nx_NoText => k_is)
   (case ix_NoText => k_is)
   (case ox_NoTable => k_is)
   (case nx_NoTable => k_is)
   (case ix_NoTable => k_is)
   (case ox_NoDialect => k_is)
   (case nx_NoDialect => k_is)
   (case ix_NoDialect => k_is)
   (case ox_NoFamily => k_is)
   (case nx_NoFamily => k_is)
   (case ix_NoFamily => k_is)
   (case ox_NoMost => k_is)
   (case nx_NoMost => k_is)
   (case ix_NoMost => k_is)
   (case ox_NoAsk => k_is)
   (case nx_NoAsk => k_is)
   (case ix_NoAsk => k_is)
   (case ox_NoRow => k_is)
   (case nx_NoRow => k_is)
   (case ix_NoRow => k_is)
   (case ox_NoName => k_is)
   (case nx_NoName => k_is)
   (case ix_NoName => k_is)
   (case ox_TooMany => k_is)
   (case nx_TooMany => k_is)
   (case ix_TooMany => k_is)
   (case ox_Broken => k_is)
   (case nx_Broken => k_is)
   (case ix_Broken => k_is)
   (case ox_NoWriting => k_is)
   (case nx_NoWriting => k_is)
   (case ix_NoWriting => k_is)
   (case aC_Dialect => k_is)
   (case aC_Turn => k_is)
   (case l0 => k_is)
   (case c0 => k_is)
   (case k0 => k_is)
   (case l1 => k_is)
   (case c1 => k_is)
   (case k1 => k_is)
   (case l2 => k_is)
   (case c2 => k_is)
   (case k2 => k_is)
   (case l3 => k_is)
   (case c3 => k_is)
   (case k3 => k_is)
   (case a4 => k_is)
   (case l4 => k_is)
   (case c4 => k_is)
   (case k4 => k_is)
   (case a5 => k_is)
   (case l5 => k_is)
   (case c5 => k_is)
   (case k5 => k_is)
   (case a6 => k_is)
   (case l6 => k_is)
   (case c6 => k_is)
   (case k6 => k_is)
   (case a7 => k_is)
   (case l7 => k_is)
   (case c7 => k_is)
   (case k7 => k_is)
   (case a8 => k_is)
   (case i8 => k_is)
   (case l8 => k_is)
   (case c8 => k_is)
   (case k8 => k_is)
   (case d8 => k_is)
   (case a9 => k_is)
   (case i9 => k_is)
   (case l9 => k_is)
   (case c9 => k_is)
   (case k9 => k_is)
   (case a10 => k_is)
   (case l10 => k_is)
   (case c10 => k_is)
   (case k10 => k_is)
   (case a11 => k_is)
   (case l11 => k_is)
   (case c11 => k_is)
   (case k11 => k_is)
   (case a12 => k_is)
   (case l12 => k_is)
   (case c12 => k_is)
   (case k12 => k_is)
   (case a13 => k_is)
   (case l13 => k_is)
   (case c13 => k_is)
   (case k13 => k_is)
   (case a14 => k_is)
   (case l14 => k_is)
   (case c14 => k_is)
   (case k14 => k_is)
   (case a15 => k_is)
   (case l15 => k_is)
   (case c15 => k_is)
   (case k15 => k_is)
   (case a16 => k_is)
   (case l16 => k_is)
   (case c16 => k_is)
   (case k16 => k_is)
   (case a17 => k_is)
   (case i17 => k_is)
   (case l17 => k_is)
   (case c17 => k_is)
   (case k17 => k_is)
   (case a18 => k_is)
   (case i18 => k_is)
   (case l18 => k_is)
   (case c18 => k_is)
   (case k18 => k_is)
   (case a19 => k_is)
   (case l19 => k_is)
   (case c19 => k_is)
   (case k19 => k_is)
   (case a20 => k_is)
   (case l20 => k_is)
   (case c20 => k_is)
   (case k20 => k_is)
   (case a21 => k_is)
   (case l21 => k_is)
   (case c21 => k_is)
   (case k21 => k_is)
   (case a22 => k_is)
   (case l22 => k_is)
   (case c22 => k_is)
   (case k22 => k_is)
   (case a23 => k_is)
   (case l23 => k_is)
   (case c23 => k_is)
   (case k23 => k_is)
   (case a24 => k_is)
   (case l24 => k_is)
   (case c24 => k_is)
   (case k24 => k_is)
   (case a25 => k_is)
   (case l25 => k_is)
   (case c25 => k_is)
   (case k25 => k_is)
   (case d25 => k_is)
   (case a26 => k_is)
   (case l26 => k_is)
   (case c26 => k_is)
   (case k26 => k_is)
   (case a27 => k_is)
   (case l27 => k_is)
   (case c27 => k_is)
   (case k27 => k_is)
   (case a28 => k_is)
   (case l28 => k_is)
   (case c28 => k_is)
   (case k28 => k_is)
   (case d28 => k_is)
   (case a29 => k_is)
   (case l29 => k_is)
   (case c29 => k_is)
   (case k29 => k_is)
   (case a30 => k_is)
   (case l30 => k_is)
   (case c30 => k_is)
   (case k30 => k_is)
   (case d30 => k_is)
   (case a31 => k_is)
   (case l31 => k_is)
   (case c31 => k_is)
   (case k31 => k_is)
   (case d31 => k_is)
   (case a32 => k_is)
   (case l32 => k_is)
   (case c32 => k_is)
   (case k32 => k_is)
   (case a33 => k_is)
   (case l33 => k_is)
   (case c33 => k_is)
   (case k33 => k_is)
   (case a34 => k_is)
   (case l34 => k_is)
   (case c34 => k_is)
   (case k34 => k_is)
   (case a35 => k_is)
   (case l35 => k_is)
   (case c35 => k_is)
   (case k35 => k_is)
   (case a36 => k_is)
   (case l36 => k_is)
   (case c36 => k_is)
   (case k36 => k_is)
   (case a37 => k_is)
   (case l37 => k_is)
   (case c37 => k_is)
   (case k37 => k_is)
   (case a38 => k_is)
   (case l38 => k_is)
   (case c38 => k_is)
   (case k38 => k_is)
   (case a39 => k_is)
   (case l39 => k_is)
   (case c39 => k_is)
   (case k39 => k_is)
   (case a40 => k_is)
   (case l40 => k_is)
   (case c40 => k_is)
   (case k40 => k_is)
   (case a41 => k_is)
   (case l41 => k_is)
   (case c41 => k_is)
   (case k41 => k_is)
   (case a42 => k_is)
   (case l42 => k_is)
   (case c42 => k_is)
   (case k42 => k_is)
   (case a43 => k_is)
   (case l43 => k_is)
   (case c43 => k_is)
   (case k43 => k_is)
   (case a44 => k_is)
   (case l44 => k_is)
   (case c44 => k_is)
   (case k44 => k_is)
   (case a45 => k_is)
   (case l45 => k_is)
   (case c45 => k_is)
   (case k45 => k_is)
   (case a46 => k_is)
   (case l46 => k_is)
   (case c46 => k_is)
   (case k46 => k_is)
   (case pg_Dialect => k_is)
   (case hd_Dialect => k_is)
   (case po_Dialect => k_is)
   (case sa_Dialect => k_is)
   (case mk_Dialect => k_is)
   (case kc_Dialect => k_is)
   (case n_Dialect_parts => k_is)
   (case n_Dialect_quotes => k_is)
   (case n_Dialect_frees => k_is)
   (case n_Dialect_twin => k_is)
   (case n_Dialect_wide => k_is)
   (case n_Dialect_thin => k_is)
   (case n_Dialect_stray => k_is)
   (case pg_Turn => k_is)
   (case hd_Turn => k_is)
   (case po_Turn => k_is)
   (case sa_Turn => k_is)
   (case mk_Turn => k_is)
   (case kc_Turn => k_is)
   (case n_Turn_dialect => k_is)
   (case w_ax_DialectError => rfl)
   (case xs_DialectError => k_is)
   (case xr_DialectError => k_is)
   (case xc_DialectError => k_is)
   (case w_ax_NoText => rfl)
   (case w_ax_NoTable => rfl)
   (case w_ax_NoDialect => rfl)
   (case w_ax_NoFamily => rfl)
   (case w_ax_NoMost => rfl)
   (case w_ax_NoAsk => rfl)
   (case w_ax_NoRow => rfl)
   (case w_ax_NoName => rfl)
   (case kx_NoName => k_is)
   (case lx_NoName => k_is)
   (case xsa_NoName => k_is)
   (case xga_NoName => k_is)
   (case xgx_NoName => k_is)
   (case xhd_NoName => k_is)
   (case xn_NoName_name => k_is)
   (case w_ax_TooMany => rfl)
   (case kx_TooMany => k_is)
   (case lx_TooMany => k_is)
   (case xsa_TooMany => k_is)
   (case xga_TooMany => k_is)
   (case xgx_TooMany => k_is)
   (case xhd_TooMany => k_is)
   (case xn_TooMany_most => k_is)
   (case w_ax_Broken => rfl)
   (case kx_Broken => k_is)
   (case lx_Broken => k_is)
   (case xsa_Broken => k_is)
   (case xga_Broken => k_is)
   (case xgx_Broken => k_is)
   (case xhd_Broken => k_is)
   (case xn_Broken_row => k_is)
   (case xn_Broken_place => k_is)
   (case xn_Broken_word => k_is)
   (case w_ax_NoWriting => rfl)
   (case kx_NoWriting => k_is)
   (case lx_NoWriting => k_is)
   (case xsa_NoWriting => k_is)
   (case xga_NoWriting => k_is)
   (case xgx_NoWriting => k_is)
   (case xhd_NoWriting => k_is)
   (case xn_NoWriting_row => k_is)
   (case xn_NoWriting_cell => k_is)
   (case xkn => k_is)
   (case xkt => k_is)
   (case xga_NoText => k_is)
   (case xgx_NoText => k_is)
   (case xhd_NoText => k_is)
   (case kx_NoText => k_is)
   (case xka_NoText => k_is)
   (case xkm_NoText => k_is)
   (case kv_NoText => k_is)
   (case ki_NoText_DialectError => k_is)
   (case ki_NoText_NoText => k_is)
   (case ki_NoText_NoTable => k_is)
   (case ki_NoText_NoDialect => k_is)
   (case ki_NoText_NoFamily => k_is)
   (case ki_NoText_NoMost => k_is)
   (case ki_NoText_NoAsk => k_is)
   (case ki_NoText_NoRow => k_is)
   (case ki_NoText_NoName => k_is)
   (case ki_NoText_TooMany => k_is)
   (case ki_NoText_Broken => k_is)
   (case ki_NoText_NoWriting => k_is)
   (case z_ValueError => k_is)
   (case z_all => k_is)
   (case z_any => k_is)
   (case z_bool => k_is)
   (case z_enumerate => k_is)
   (case z_isinstance => k_is)
   (case z_len => k_is)
   (case z_list => k_is)
   (case z_max => k_is)
   (case z_ord => k_is)
   (case z_range => k_is)
   (case z_sorted => k_is)
   (case z_str => k_is)
   (case z_tuple => k_is)
   (case z_zip => k_is)
   (case v_LINE => k_is)
   (case w_LINE => rfl)
   (case v_MOST_SIGNS => k_is)
   (case v_START => k_is)
   (case t_START => k_is)

