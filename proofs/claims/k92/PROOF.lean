import PyProof.Rows.All
import Wide.All
import OpenK.AllK
import Wide.FinOn
import Lean
import PyProof.EqAt
import PyProof.EqKinds
import PyProof.TupleCall
import PySem.Challenge.RW_dialecthall_k92_rows_refused
set_option Elab.async false
set_option linter.all false
set_option maxRecDepth 100000
namespace L2
open PySem PySem.Spec PyProof.Rows
abbrev Key := Sum Int Str
def keyIs : Key → Value → Bool
  | .inl k, v => Value.isInt k v
  | .inr x, v => Value.isStrOf x v
def keyH (w : World) : Key → Int
  | .inl k => hashInt k
  | .inr x => hashStr w x
theorem keyIs_shape : ∀ {k : Key} {v : Value}, keyIs k v = true → (∃ i t, k = Sum.inl i ∧ v = Value.int i t) ∨ (∃ x t, k = Sum.inr x ∧ v = Value.str x t)
  | .inl i, v, h => by
    obtain ⟨t, e⟩ := Value.isInt_shape (k := i) (v := v) h
    exact .inl ⟨i, t, rfl, e⟩
  | .inr x, v, h => by
    obtain ⟨t, e⟩ := Value.isStrOf_shape (x := x) (v := v) h
    exact .inr ⟨x, t, rfl, e⟩
theorem key_ll (a b : Int) : decide ((Sum.inl a : Key) = Sum.inl b) = (a == b) := by
  by_cases e : a = b
  · subst e; simp
  · have h : ¬ (Sum.inl a : Key) = Sum.inl b := fun q => e (Sum.inl.inj q)
    rw [decide_eq_false h]
    exact (beq_eq_false_iff_ne.mpr e).symm
theorem key_rr (a b : Str) : decide ((Sum.inr a : Key) = Sum.inr b) = decide (a = b) := by
  by_cases e : a = b
  · subst e; simp
  · have h : ¬ (Sum.inr a : Key) = Sum.inr b := fun q => e (Sum.inr.inj q)
    rw [decide_eq_false h, decide_eq_false e]
theorem key_lr (a : Int) (b : Str) : decide ((Sum.inl a : Key) = Sum.inr b) = false := decide_eq_false (fun q => nomatch q)
theorem key_rl (a : Str) (b : Int) : decide ((Sum.inr a : Key) = Sum.inl b) = false := decide_eq_false (fun q => nomatch q)

def mixKind (prog : Program) (w : World) : PySem.KeyKind prog w Key where
  is := keyIs
  hash := keyH w
  inj := fun v a b ha hb => by
    rcases keyIs_shape ha with ⟨i, t, rfl, rfl⟩ | ⟨x, t, rfl, rfl⟩
    · rcases keyIs_shape hb with ⟨j, u, rfl, e⟩ | ⟨y, u, rfl, e⟩
      · injection e with e1 _; rw [e1]
      · exact nomatch e
    · rcases keyIs_shape hb with ⟨j, u, rfl, e⟩ | ⟨y, u, rfl, e⟩
      · exact nomatch e
      · injection e with e1 _; rw [e1]
  byValue := fun k v h => by
    rcases keyIs_shape h with ⟨i, t, rfl, rfl⟩ | ⟨x, t, rfl, rfl⟩ <;> rfl
  pyHash := fun hv h => by
    rcases keyIs_shape hv with ⟨i, t, rfl, rfl⟩ | ⟨x, t, rfl, rfl⟩
    · exact wpAny_pyHash_int h
    · exact wpAny_pyHash_str h
  eqBool := fun hu hv h => by
    rcases keyIs_shape hu with ⟨i, t, rfl, rfl⟩ | ⟨x, t, rfl, rfl⟩
    · rcases keyIs_shape hv with ⟨j, u, rfl, rfl⟩ | ⟨y, u, rfl, rfl⟩
      · rw [key_ll] at h; exact wpAny_eqBool_int h
      · rw [key_lr] at h; exact SeqAt.EqAt.int_str i t y u _ _ _ _ h
    · rcases keyIs_shape hv with ⟨j, u, rfl, rfl⟩ | ⟨y, u, rfl, rfl⟩
      · rw [key_rl] at h; exact SeqAt.EqAt.str_int x t j u _ _ _ _ h
      · rw [key_rr] at h; exact wpAny_eqBool_str h
  «strs» := fun k x t v h => by
    rcases keyIs_shape h with ⟨i, u, rfl, e⟩ | ⟨y, u, rfl, e⟩
    · exact nomatch e
    · injection e with e1 _
      subst e1
      cases v <;> rfl

end L2

namespace L2
open PySem PySem.Spec PyProof.Rows
inductive V where
  | non | bl (b : Bool) | int (i : Int) | str (x : Str) | byt (b : Array UInt8) | flt (b : UInt64) | ref (a : Addr) | ty (n : String)
  deriving DecidableEq

def RelV : V → Value → Prop
  | .non, u => u = Value.none
  | .bl b, u => u = Value.bool b
  | .int i, u => ∃ t, u = Value.int i t
  | .str x, u => ∃ t, u = Value.str x t
  | .byt b, u => ∃ t, u = Value.bytes b t
  | .flt b, u => ∃ t, u = Value.float b t
  | .ref a, u => u = Value.ref a
  | .ty n, u => u = Value.type n

abbrev Vals : List V → List Value → Prop := Paired RelV
theorem Vals.length {xs : List V} {us : List Value} (r : Vals xs us) : xs.length = us.length := Paired.length r
theorem Vals.get : ∀ {xs : List V} {us : List Value} {i : Nat} {x : V}, Vals xs us → xs[i]? = some x → ∃ u, us[i]? = some u ∧ RelV x u
  | _, _, _, _, .nil, e => by simp at e
  | _, _, 0, _, .cons r _, e => by simp at e; subst e; exact ⟨_, rfl, r⟩
  | _, _, i + 1, x, .cons _ t, e => by
    obtain ⟨u, h1, h2⟩ := Vals.get (i := i) (x := x) t (by simpa using e)
    exact ⟨u, by simpa using h1, h2⟩
theorem Vals.set {x : V} {u : Value} (r : RelV x u) : ∀ {xs : List V} {us : List Value} (i : Nat), Vals xs us → Vals (xs.set i x) (us.set i u)
  | _, _, _, .nil => .nil
  | _, _, 0, .cons _ t => .cons r t
  | _, _, i + 1, .cons q t => .cons q (Vals.set r i t)
theorem Vals.append : ∀ {xs ys : List V} {us ws : List Value}, Vals xs us → Vals ys ws → Vals (xs ++ ys) (us ++ ws)
  | _, _, _, _, .nil, s => s
  | _, _, _, _, .cons r t, s => .cons r (Vals.append t s)
theorem Vals.take : ∀ {xs : List V} {us : List Value} (n : Nat), Vals xs us → Vals (xs.take n) (us.take n)
  | _, _, 0, _ => .nil
  | _, _, _ + 1, .nil => .nil
  | _, _, n + 1, .cons r t => .cons r (Vals.take n t)
theorem Vals.drop : ∀ {xs : List V} {us : List Value} (n : Nat), Vals xs us → Vals (xs.drop n) (us.drop n)
  | _, _, 0, r => r
  | _, _, _ + 1, .nil => .nil
  | _, _, n + 1, .cons _ t => Vals.drop n t
theorem Vals.none_of : ∀ {xs : List V} {us : List Value} {i : Nat}, Vals xs us → xs[i]? = none → us[i]? = none := fun {xs us i} r e => by
  have h1 := r.length
  have h2 : xs.length ≤ i := List.getElem?_eq_none_iff.mp e
  exact List.getElem?_eq_none_iff.mpr (by omega)

def RelO : Option V → Option Value → Prop
  | some v, some u => RelV v u
  | none, none => True
  | _, _ => False
def KV {κ : Type} : List (κ × V) → List (κ × Value) → Prop := Paired fun (p : κ × V) (q : κ × Value) => p.1 = q.1 ∧ RelV p.2 q.2
def kV : Key → V
  | .inl i => .int i
  | .inr x => .str x
inductive HO where
  | lst (xs : List V)
  | tup (xs : List V)
  | dK (kvs : List (Key × V)) | dT (kvs : List (List Key × V))
  | set (S : Int → Bool) (n : Nat)
  | ins (C dx : Addr) (fs : List (Str × V))
  | own (x : Addr)
  | xd (fs : List (Str × V))
  | met (f x : Addr)
  | rng (lo hi : Int)
  | frz (o : Obj) (u : HO)
  | tbl (ps : Array Value)
  | ext (φ : Heap → Prop)

abbrev Hp := Addr → Option HO
def upd (H : Hp) (a : Addr) (o : HO) : Hp := fun b => if b = a then some o else H b
theorem upd_same {H : Hp} {a : Addr} {o : HO} : upd H a o a = some o := by unfold upd; rw [if_pos rfl]
theorem upd_ne {H : Hp} {a b : Addr} {o : HO} (h : b ≠ a) : upd H a o b = H b := by unfold upd; rw [if_neg h]
theorem ne_of {H : Hp} {a b : Addr} {o u : HO} (h : H a = some o) (h' : H b = some u) (d : o ≠ u) : a ≠ b := by
  intro e; subst e; rw [h] at h'; exact d (Option.some.inj h')
theorem ne_of_none {H : Hp} {a b : Addr} {o : HO} (h : H a = some o) (h' : H b = none) : a ≠ b := by
  intro e; subst e; rw [h] at h'; cases h'

section
variable (P : Program) (w : World)
def ObjOk (H : Hp) (h : Heap) (a : Addr) : HO → Prop
  | .lst xs => xs.length ≤ sizeLine ∧ ∃ (its : List Value) (n : Nat), Vals xs its ∧ h.get? a = some { cls := .type "list", data := .seq its.toArray n }
  | .tup xs => xs.length ≤ sizeLine ∧ ∃ its : List Value, Vals xs its ∧ IsTup h a its.toArray
  | .dK kvs => kvs.length ≤ sizeLine ∧ (a == sysModules) = false ∧ ∃ vs, KV kvs vs ∧ h.DictOf (mixKind P w) a vs
  | .dT kvs => kvs.length ≤ sizeLine ∧ (a == sysModules) = false ∧ ∃ xs : List (List Key × Addr × Value),
      Paired (fun (p : List Key × V) (q : List Key × Addr × Value) => p.1 = q.1 ∧ H q.2.1 = some (.tup (p.1.map kV)) ∧ RelV p.2 q.2.2) kvs xs ∧
      ∃ o es ep, h.get? a = some o ∧ o.ExactDict ∧ o.data = .dict es ep ∧ es.toList = xs.map (entryOfKey (tupleKind (mixKind P w))) ∧ (xs.map (·.1)).Nodup
  | .set S n => h.SetOf (intKind P w) a S n
  | .ins C dx fs => H dx = some (.own a) ∧ fs.length ≤ 1000 ∧ dx ≠ a ∧ h.get? a = some (PySem.W.instObj C dx) ∧
      ∃ mA, h.Ns1 dx mA ∧ (∀ f, RelO (fs.lookup f) (mA f)) ∧ PySem.Within mA (fs.map (·.1))
  | .own _ => ∃ o, h.get? a = some o
  | .xd fs => ∃ mA, h.Ns1 a mA ∧ ∀ f, RelO (fs.lookup f) (mA f)
  | .rng lo hi => ∃ t u v, h.get? a = some { cls := .type "range", data := .fields #[.int lo t, .int hi u, .int 1 v] }
  | .frz o u => h.get? a = some o ∧ ObjOk H h a u
  | .tbl ps => h.get? a = some { cls := .none, data := .fields ps }
  | .met f x => h.get? a = some (PySem.W.methodObj (.ref f) (.ref x))
  | .ext φ => φ h ∧ (∃ o, h.get? a = some o) ∧ ∀ h1 h2 : Heap, φ h1 → (∀ o, h1.get? a = some o → h2.get? a = some o) → φ h2
def HOk (H : Hp) (h : Heap) : Prop := ∀ a o, H a = some o → ObjOk P w H h a o
end

section
variable {P : Program} {w : World} {H H' : Hp} {h h' : Heap} {a : Addr} {o : HO}
theorem ObjOk.lt (x : ObjOk P w H h a o) : a < h.objs.size := by
  cases o with
  | lst xs => obtain ⟨_, _, _, _, e⟩ := x; exact Heap.lt_size e
  | tup xs => obtain ⟨_, _, _, p⟩ := x; exact p.lt
  | dK kvs => obtain ⟨_, _, _, _, o, _, _, e, _⟩ := x; exact Heap.lt_size e
  | dT kvs => obtain ⟨_, _, _, _, o, _, _, e, _⟩ := x; exact Heap.lt_size e
  | set S n => obtain ⟨o, _, _, _, e, _⟩ := x; exact Heap.lt_size e
  | ins C dx fs => obtain ⟨_, _, _, e, _⟩ := x; exact Heap.lt_size e
  | own y => obtain ⟨_, e⟩ := x; exact Heap.lt_size e
  | xd fs => obtain ⟨_, ⟨_, _, _, e, _⟩, _⟩ := x; exact Heap.lt_size e
  | rng lo hi => obtain ⟨_, _, _, e⟩ := x; exact Heap.lt_size e
  | frz ob u => obtain ⟨e, _⟩ := x; exact Heap.lt_size e
  | tbl ps => exact Heap.lt_size (show h.get? a = some _ from x)
  | met f y => exact Heap.lt_size (show h.get? a = some _ from x)
  | ext φ => obtain ⟨_, ⟨_, e⟩, _⟩ := x; exact Heap.lt_size e
theorem Paired.mapP {α β : Type} {F G : α → β → Prop} : ∀ {l₁ : List α} {l₂ : List β}, Paired F l₁ l₂ → (∀ a b, F a b → G a b) → Paired G l₁ l₂
  | _, _, .nil, _ => .nil
  | _, _, .cons r t, f => .cons (f _ _ r) (Paired.mapP t f)
theorem ObjOk.stay (x : ObjOk P w H h a o) (k : ∀ b u, (b = a ∨ H b = some (.own a)) → h.get? b = some u → h'.get? b = some u)
    (ho : ∀ b, H b = some (.own a) → H' b = some (.own a)) (ht : ∀ b xs, H b = some (.tup xs) → H' b = some (.tup xs)) : ObjOk P w H' h' a o := by
  induction o with
  | lst xs => obtain ⟨z, its, n, r, e⟩ := x; exact ⟨z, its, n, r, k _ _ (.inl rfl) e⟩
  | tup xs => obtain ⟨z, its, r, ob, e, c⟩ := x; exact ⟨z, its, r, ob, k _ _ (.inl rfl) e, c⟩
  | dK kvs => obtain ⟨z, y, vs, r, ob, es, ep, e, c⟩ := x; exact ⟨z, y, vs, r, ob, es, ep, k _ _ (.inl rfl) e, c⟩
  | dT kvs =>
    obtain ⟨z, y, xs, r, ob, es, ep, e, c⟩ := x
    exact ⟨z, y, xs, Paired.mapP r fun p q z => ⟨z.1, ht _ _ z.2.1, z.2.2⟩, ob, es, ep, k _ _ (.inl rfl) e, c⟩
  | set S n => obtain ⟨ob, es, ep, t, e, c⟩ := x; exact ⟨ob, es, ep, t, k _ _ (.inl rfl) e, c⟩
  | ins C dx fs =>
    obtain ⟨d, z, ne, e, mA, ⟨od, es, ep, e2, c⟩, r⟩ := x
    exact ⟨ho _ d, z, ne, k _ _ (.inl rfl) e, mA, ⟨od, es, ep, k _ _ (.inr d) e2, c⟩, r⟩
  | own y => obtain ⟨ob, e⟩ := x; exact ⟨ob, k _ _ (.inl rfl) e⟩
  | xd fs => obtain ⟨mA, ⟨od, es, ep, e, c⟩, r⟩ := x; exact ⟨mA, ⟨od, es, ep, k _ _ (.inl rfl) e, c⟩, r⟩
  | rng lo hi => obtain ⟨t, u, v, e⟩ := x; exact ⟨t, u, v, k _ _ (.inl rfl) e⟩
  | frz ob u ih => obtain ⟨e, q⟩ := x; exact ⟨k _ _ (.inl rfl) e, ih q⟩
  | tbl ps =>
    have e : h.get? a = some { cls := .none, data := .fields ps } := x
    show h'.get? a = some { cls := .none, data := .fields ps }
    exact k a _ (.inl rfl) e
  | met f y =>
    have e : h.get? a = some (PySem.W.methodObj (.ref f) (.ref y)) := x
    show h'.get? a = some (PySem.W.methodObj (.ref f) (.ref y))
    exact k a _ (.inl rfl) e
  | ext φ => obtain ⟨p, ⟨o, e⟩, st⟩ := x; exact ⟨st _ _ p fun o q => k _ _ (.inl rfl) q, ⟨o, k _ _ (.inl rfl) e⟩, st⟩
theorem HOk.lt (x : HOk P w H h) (e : H a = some o) : a < h.objs.size := (x a o e).lt
theorem HOk.fresh (x : HOk P w H h) (e : h.objs.size ≤ a) : H a = none := by
  cases q : H a with
  | none => rfl
  | some u => exact absurd (Nat.lt_of_lt_of_le (x.lt q) e) (Nat.lt_irrefl _)
theorem HOk.kept (x : HOk P w H h) (k : ∀ b u, h.get? b = some u → h'.get? b = some u) : HOk P w H h' := fun a o e =>
  (x a o e).stay (fun b u _ q => k b u q) (fun _ q => q) fun _ _ q => q
theorem HOk.laid (x : HOk P w H h) (k : ∀ b u, h.get? b = some u → h'.get? b = some u) (hp : h.objs.size ≤ a) (new : ObjOk P w (upd H a o) h' a o) : HOk P w (upd H a o) h' := fun b u e => by
  have hn := x.fresh hp
  by_cases hb : b = a
  · subst hb; rw [upd_same] at e; cases e; exact new
  · rw [upd_ne hb] at e
    exact (x b u e).stay (fun c v _ q => k c v q) (fun c q => by rw [upd_ne (ne_of_none q hn)]; exact q) fun c xs q => by rw [upd_ne (ne_of_none q hn)]; exact q
end
def Rd (H : Hp) (a : Addr) (u : HO) : Prop := H a = some u ∨ ∃ o, H a = some (.frz o u)
theorem Rd.of {H : Hp} {a : Addr} {u : HO} (h : H a = some u) : Rd H a u := .inl h
theorem Rd.ok {P : Program} {w : World} {H : Hp} {h : Heap} {a : Addr} {u : HO} (r : Rd H a u) (x : HOk P w H h) : ObjOk P w H h a u := by
  rcases r with r | ⟨o, r⟩
  · exact x a u r
  · obtain ⟨_, q⟩ := x a _ r
    exact q
def Mut : Option HO → Prop
  | some (.lst _) => True
  | some (.dK _) => True
  | some (.dT _) => True
  | some (.set _ _) => True
  | some (.ins _ _ _) => True
  | some (.ext _) => True
  | _ => False
section
variable {P : Program} {w : World} {H : Hp} {h h' : Heap} {x e : Addr} {o' : HO}
theorem HOk.write (ok : HOk P w H h) (mu : Mut (H x)) (he : e = x ∨ H e = some (.own x)) (k : ∀ b u, b ≠ e → h.get? b = some u → h'.get? b = some u) (heo : ∃ u, h'.get? e = some u)
    (new : ObjOk P w (upd H x o') h' x o') : HOk P w (upd H x o') h' := fun b u q => by
  have nown : ∀ c y, H c = some (.own y) → c ≠ x := fun c y r z => by subst z; rw [r] at mu; exact mu
  have ntup : ∀ c xs, H c = some (.tup xs) → c ≠ x := fun c xs r z => by subst z; rw [r] at mu; exact mu
  by_cases hb : b = x
  · subst hb; rw [upd_same] at q; cases q; exact new
  · rw [upd_ne hb] at q
    by_cases hbe : b = e
    · have q' : H b = some (.own x) := by
        rcases he with z | z
        · exact absurd (hbe.trans z) hb
        · rw [hbe]; exact z
      rw [q] at q'; cases q'
      obtain ⟨v, hv⟩ := heo
      exact ⟨v, by rw [hbe]; exact hv⟩
    · refine (ok b u q).stay (fun c v hc r => k c v ?_ r) (fun c r => by rw [upd_ne (nown c b r)]; exact r) fun c xs r => by rw [upd_ne (ntup c xs r)]; exact r
      rcases hc with rfl | hc
      · exact hbe
      · rintro rfl
        rcases he with z | z
        · exact nown c b hc z
        · rw [hc] at z; cases z; exact hb rfl
end
structure Un (fs ex : List Addr) (H H' : Hp) (h h' : Heap) : Prop where
  keep : ∀ b o, h.get? b = some o → H b = none → b ∉ fs → b ∉ ex → h'.get? b = some o
  slot : ∀ b o, h.get? b = some o → H b = none → b ∈ fs → b ∉ ex → ∃ sl, h'.get? b = some { o with slots := sl }
  free : ∀ b o, h.get? b = some o → H b = none → b ∉ ex → H' b = none
  there : ∀ b o, h.get? b = some o → b ∉ ex → ∃ o', h'.get? b = some o'
  tups : ∀ b xs, H b = some (.tup xs) → H' b = some (.tup xs)
  frzs : ∀ b o u, H b = some (.frz o u) → H' b = some (.frz o u)
  tbls : ∀ b ps, H b = some (.tbl ps) → ∃ more, H' b = some (.tbl (ps ++ more))
section
variable {fs fs' ex ex' : List Addr} {H H1 H2 : Hp} {h h1 h2 h' : Heap} {a x e : Addr} {o : HO}
theorem Un.any (u : Un fs ex H H1 h h1) {b : Addr} {ob : Obj} (q : h.get? b = some ob) (n : H b = none) (hx : b ∉ ex) : ∃ sl, h1.get? b = some { ob with slots := sl } := by
  by_cases hb : b ∈ fs
  · exact u.slot b ob q n hb hx
  · exact ⟨ob.slots, u.keep b ob q n hb hx⟩
theorem Un.trans (a : Un fs ex H H1 h h1) (b : Un fs ex H1 H2 h1 h2) : Un fs ex H H2 h h2 where
  keep := fun c ob q n hc hx => b.keep c ob (a.keep c ob q n hc hx) (a.free c ob q n hx) hc hx
  slot := fun c ob q n hc hx => by
    obtain ⟨sl, e1⟩ := a.slot c ob q n hc hx
    obtain ⟨sl', e2⟩ := b.slot c _ e1 (a.free c ob q n hx) hc hx
    exact ⟨sl', e2⟩
  free := fun c ob q n hx => by
    obtain ⟨o', e1⟩ := a.there c ob q hx
    exact b.free c o' e1 (a.free c ob q n hx) hx
  there := fun c ob q hx => by
    obtain ⟨o', e1⟩ := a.there c ob q hx
    exact b.there c o' e1 hx
  tups := fun c xs q => b.tups c xs (a.tups c xs q)
  frzs := fun c ob xs q => b.frzs c ob xs (a.frzs c ob xs q)
  tbls := fun c ps q => by
    obtain ⟨m1, e1⟩ := a.tbls c ps q
    obtain ⟨m2, e2⟩ := b.tbls c _ e1
    exact ⟨m1 ++ m2, by rw [e2, Array.append_assoc]⟩
theorem Un.kept (k : ∀ b u, h.get? b = some u → h'.get? b = some u) : Un fs ex H H h h' :=
  ⟨fun b ob q _ _ _ => k b ob q, fun b ob q _ _ _ => ⟨ob.slots, k b ob q⟩, fun _ _ _ n _ => n, fun b ob q _ => ⟨ob, k b ob q⟩, fun _ _ q => q, fun _ _ _ q => q, fun _ ps q => ⟨#[], by rw [q]; simp⟩⟩
theorem Un.refl : Un fs ex H H h h := Un.kept fun _ _ q => q
theorem Un.laid (k : ∀ b u, h.get? b = some u → h'.get? b = some u) (hp : h.objs.size ≤ a) (hn : H a = none) : Un fs ex H (upd H a o) h h' where
  keep := fun b u q _ _ _ => k b u q
  slot := fun b u q _ _ _ => ⟨u.slots, k b u q⟩
  free := fun b u q n _ => by rw [upd_ne (Nat.ne_of_lt (Nat.lt_of_lt_of_le (Heap.lt_size q) hp))]; exact n
  there := fun b u q _ => ⟨u, k b u q⟩
  tups := fun b xs q => by rw [upd_ne (ne_of_none q hn)]; exact q
  frzs := fun b u xs q => by rw [upd_ne (ne_of_none q hn)]; exact q
  tbls := fun b ps q => ⟨#[], by rw [upd_ne (ne_of_none q hn), q]; simp⟩
theorem Un.write (mu : Mut (H x)) (he : e = x ∨ H e = some (.own x)) (k : ∀ b u, b ≠ e → h.get? b = some u → h'.get? b = some u) (heo : ∃ u, h'.get? e = some u) : Un fs ex H (upd H x o) h h' := by
  have hx : ∀ b, H b = none → b ≠ x := fun b n z => by subst z; rw [n] at mu; exact mu
  have hb : ∀ b, H b = none → b ≠ e := fun b n z => by
    subst z
    rcases he with r | r
    · exact hx b n r
    · rw [n] at r; cases r
  have hm : ∀ b u, H b = some u → ¬ Mut (some u) → b ≠ x := fun b u q nm z => by subst z; rw [q] at mu; exact nm mu
  refine ⟨fun b u q n _ _ => k b u (hb b n) q, fun b u q n _ _ => ⟨u.slots, k b u (hb b n) q⟩, fun b u q n _ => by rw [upd_ne (hx b n)]; exact n, fun b u q _ => ?_,
    fun b xs q => by rw [upd_ne (hm b _ q fun z => z)]; exact q, fun b u xs q => by rw [upd_ne (hm b _ q fun z => z)]; exact q, fun b ps q => ⟨#[], by rw [upd_ne (hm b _ q fun z => z), q]; simp⟩⟩
  by_cases hbe : b = e
  · subst hbe; exact heo
  · exact ⟨u, k b u hbe q⟩
theorem Un.mono (u : Un fs ex H H1 h h1) (hs : ∀ b ∈ fs, b ∈ fs') (hx : ∀ b ∈ ex, b ∈ ex') : Un fs' ex' H H1 h h1 :=
  ⟨fun b ob q n hb he => u.keep b ob q n (fun z => hb (hs b z)) fun z => he (hx b z), fun _ _ q n _ he => u.any q n fun z => he (hx _ z), fun b ob q n he => u.free b ob q n fun z => he (hx b z), fun b ob q he => u.there b ob q fun z => he (hx b z), u.tups, u.frzs, u.tbls⟩
end
def trk (h : Heap) (H : Hp) : List Addr := (List.range h.objs.size).filter fun a => (H a).isSome
def hidT (h : Heap) (H : Hp) : Heap := PySem.W.hideAll h (trk h H)
theorem hidT_size (h : Heap) (H : Hp) : (hidT h H).objs.size = h.objs.size := PySem.W.hideAll_size _ _
theorem hidT_get {h : Heap} {H : Hp} {b : Addr} {o : Obj} (e : h.get? b = some o) (n : H b = none) : (hidT h H).get? b = some o :=
  PySem.W.hideAll_get _ e fun hm => by
    have q : (H b).isSome = true := (List.mem_filter.mp hm).2
    rw [n] at q; simp at q
theorem of_hidT {h : Heap} {H : Hp} {b : Addr} {o : Obj} (e : (hidT h H).get? b = some o) : h.get? b = some o ∧ H b = none := by
  have e' : h.get? b = some o := PySem.W.of_hideAll (trk h H) e
  refine ⟨e', ?_⟩
  cases q : H b with
  | none => rfl
  | some x =>
    have hm : b ∈ trk h H := List.mem_filter.mpr ⟨List.mem_range.mpr (Heap.lt_size e'), by simp [q]⟩
    have z : (hidT h H).get? b = none := PySem.W.hideAll_none (trk h H) hm
    rw [z] at e; cases e
def allNews (g h : Heap) (L : Addr) : List (Addr × Obj) := (List.range h.objs.size).filterMap fun a => if a = L ∨ (g.get? a).isSome = true then none else (h.get? a).map fun o => (a, o)
def rest (g h : Heap) (L d : Addr) : List (Addr × Obj) := (allNews g h L).filter fun p => decide (p.1 ≠ d)
end L2

namespace L2
open PySem PySem.Spec PyProof.Rows
structure Mod (K : PySem.W.Frag) (mg : Str → Option Value) (base : Heap) : Prop where
  kin : K.In base
  glob : base.Ns mainGlobals mg
  blt : ∃ mb, base.Ns builtinsNs mb ∧ ∀ x : Str, x ≠ "__name__" → mb x = bootBuiltins x
  nolimit : base.NoLimit

/-- the context: a def's body (or a comprehension's block) running. base: fixed through the whole law; s₀, H₀: the entry; outer: the frames whose slots others may change (a def's callers); stack: all frames that run;
   ex: iterators that were made ahead of the entry and are walked here (a comprehension's); fn: the names whose cells were made at the entry (a def: all; a comprehension's block: its own); calm: not within an except suite; pn: pins that every state bears; xe: what is wanted of an exception that leaves the code -/
structure Cx where
  prog : Program
  w : World
  K : PySem.W.Frag
  mg : Str → Option Value
  base : Heap
  A : Around
  N : List Str
  s₀ : Shared
  H₀ : Hp
  env : Env
  outer : List Env
  stack : List Env
  ex : List Addr
  fn : Str → Bool
  calm : Bool
  pn : List (Addr × Obj)
  xe : Value → Shared → Prop
def frs (l : List Env) : List Addr := l.filterMap (·.frame)
abbrev Cx.fs (X : Cx) : List Addr := frs X.outer

def Vis (sc : Scope) (x : Str) : Prop := sc.names.lookup x = some .local ∨ sc.names.lookup x = some .cell ∨ sc.names.lookup x = some .free
def Loc (sc : Scope) (x : Str) : Prop := sc.names.lookup x = some .local ∨ sc.names.lookup x = some .cell
def Look (env : Env) (h : Heap) (m : Str → Option Value) (x : Str) (u : Value) : Prop :=
  (env.kindOf x = some .local ∧ m x = some u) ∨ ((env.kindOf x = some .cell ∨ env.kindOf x = some .free) ∧ ∃ c, env.cells.lookup x = some c ∧ h.IsCell c (some u))

structure Cx.Ok (X : Cx) : Prop where
  mod : Mod X.K X.mg X.base
  kind : X.env.scope.kind = .function
  glob : X.env.globals = mainGlobals
  blt : X.env.builtins = builtinsNs
  above : X.s₀.heap.objs.size ≤ X.env.locals
  inj : ∀ x y c, X.env.cells.lookup x = some c → X.env.cells.lookup y = some c → x = y
  has : ∀ x, (X.env.kindOf x = some .cell ∨ X.env.kindOf x = some .free) → ∃ c, X.env.cells.lookup x = some c
  cab : ∀ x c, X.fn x = true → X.env.cells.lookup x = some c → X.s₀.heap.objs.size ≤ c
  hd : X.calm = true → X.A.handled = none
  frames : X.A.frames = some X.stack
  stk : X.stack = X.outer ∨ (X.stack = X.env :: X.outer ∧ X.env.frame = some X.env.locals)
  exf : ∀ b ∈ X.ex, b ≠ X.env.locals ∧ ∀ x c, X.env.cells.lookup x = some c → c ≠ b
  bs : ∀ b o, X.base.get? b = some o → X.s₀.heap.get? b = some o ∧ X.H₀ b = none
  bsz : X.base.objs.size ≤ X.s₀.heap.objs.size
  noex : ∀ b o, X.base.get? b = some o → b ∉ X.ex
  exfs : ∀ b ∈ X.ex, b ∉ X.fs
  funs : X.s₀.heap.FunFrames X.base X.outer
  frf : ∀ b ∈ X.fs, X.H₀ b = none

structure Inv (X : Cx) (pins : List (Addr × Obj)) (σ : List (Option V)) (H : Hp) (s : Shared) : Prop where
  ok : X.Ok
  os : s.os = X.s₀.os
  bare : AllBare s.gens
  base : Un X.fs X.ex X.H₀ H X.s₀.heap s.heap
  loc : ∃ m, s.heap.Ns X.env.locals m ∧ ∀ (i : Nat) (x : Str) (v : V), X.N[i]? = some x → σ[i]? = some (some v) → Vis X.env.scope x → ∃ u, RelV v u ∧ Look X.env s.heap m x u
  cell : ∀ x c, X.env.cells.lookup x = some c → ∃ v, s.heap.IsCell c v
  free : H X.env.locals = none
  freeC : ∀ x c, X.env.cells.lookup x = some c → H c = none
  pin : ∀ p ∈ X.pn ++ pins, s.heap.get? p.1 = some p.2 ∧ H p.1 = none ∧ p.1 ≠ X.env.locals ∧ p.1 ∉ X.fs ∧ ∀ v, p.2.data ≠ .cell v
  hok : HOk X.prog X.w H s.heap
  len : σ.length = X.N.length

section
variable {X : Cx} {pins : List (Addr × Obj)} {σ : List (Option V)} {H H' : Hp} {s : Shared} {h' : Heap}

theorem Cx.Ok.nofr (ok : X.Ok) {b : Addr} {o : Obj} (e : X.base.get? b = some o) : b ∉ X.fs := fun hb => by
  have := (ok.funs.mem hb).1
  rw [e] at this; cases this
theorem Inv.bs (I : Inv X pins σ H s) : ∀ b o, X.base.get? b = some o → s.heap.get? b = some o ∧ H b = none := fun b o e =>
  ⟨I.base.keep b o (I.ok.bs b o e).1 (I.ok.bs b o e).2 (I.ok.nofr e) (I.ok.noex b o e), I.base.free b o (I.ok.bs b o e).1 (I.ok.bs b o e).2 (I.ok.noex b o e)⟩
theorem Inv.bk (I : Inv X pins σ H s) : ∀ b o, X.base.get? b = some o → s.heap.get? b = some o := fun b o e => (I.bs b o e).1
theorem Inv.mod (I : Inv X pins σ H s) : Mod X.K X.mg X.base := I.ok.mod
theorem Inv.kIn (I : Inv X pins σ H s) : X.K.In s.heap := I.ok.mod.kin.keeps I.bk
theorem Inv.nolimit (I : Inv X pins σ H s) : s.heap.NoLimit := I.ok.mod.nolimit.keeps I.bk
theorem Inv.fr (I : Inv X pins σ H s) : ∃ m, Fr X.base X.env.locals s.heap m :=
  let ⟨m, hn, _⟩ := I.loc
  ⟨m, hn, I.bk, Nat.le_trans I.ok.bsz I.ok.above⟩
theorem Inv.lt (I : Inv X pins σ H s) : X.env.locals < s.heap.objs.size := let ⟨_, hn, _⟩ := I.loc; hn.lt
theorem Inv.sz (I : Inv X pins σ H s) : X.s₀.heap.objs.size ≤ s.heap.objs.size := Nat.le_trans I.ok.above (Nat.le_of_lt I.lt)
theorem Inv.nofs (I : Inv X pins σ H s) {a : Addr} (h : s.heap.objs.size ≤ a) : a ∉ X.fs := fun hb => by
  obtain ⟨_, o, ho, _⟩ := I.ok.funs.mem hb
  exact absurd (Nat.lt_of_lt_of_le (Heap.lt_size ho) (Nat.le_trans I.sz h)) (Nat.lt_irrefl _)
theorem Inv.cne (I : Inv X pins σ H s) : ∀ x c, X.env.cells.lookup x = some c → c ≠ X.env.locals := fun x c e z => by
  obtain ⟨v, o, ho, hd⟩ := I.cell x c e
  obtain ⟨m, ⟨o', es, ep, ho', hd', _⟩, _⟩ := I.loc
  rw [z, ho'] at ho; cases ho; rw [hd'] at hd; cases hd
theorem Inv.funs (I : Inv X pins σ H s) : s.heap.FunFrames X.base X.outer := by
  have all : ∀ (l : List Env), (∀ b ∈ frs l, b ∈ X.fs) → X.s₀.heap.FunFrames X.base l → s.heap.FunFrames X.base l := by
    intro l
    induction l with
    | nil => intro _ _; trivial
    | cons env r ih =>
      intro hs hl
      obtain ⟨hk, ⟨L, o, hf, hn, ho, hd⟩, hr⟩ := hl
      have hL : L ∈ X.fs := hs L (by unfold frs; rw [List.filterMap_cons, hf]; exact List.mem_cons_self)
      obtain ⟨sl, e⟩ := I.base.slot L o ho (I.ok.frf L hL) hL fun z => I.ok.exfs L z hL
      exact ⟨hk, ⟨L, _, hf, hn, e, hd⟩, ih (fun b hb => hs b (by unfold frs; rw [List.filterMap_cons, hf]; exact List.mem_cons_of_mem _ hb)) hr⟩
  exact all X.outer (fun _ hb => hb) I.ok.funs
theorem Inv.stack (I : Inv X pins σ H s) : s.heap.FunFrames X.base X.stack := by
  rcases I.ok.stk with e | ⟨e, hf⟩
  · rw [e]; exact I.funs
  · rw [e]
    obtain ⟨m, hn, _⟩ := I.loc
    refine .cons (by rw [I.ok.kind]; decide) hf hn ?_ I.funs
    exact Heap.get?_none_of_le (Nat.le_trans I.ok.bsz I.ok.above)
theorem Inv.stkSub (I : Inv X pins σ H s) : ∀ b ∈ frs X.stack, b ∈ X.env.locals :: X.fs := fun b hb => by
  rcases I.ok.stk with e | ⟨e, hf⟩
  · rw [e] at hb; exact List.mem_cons_of_mem _ hb
  · rw [e] at hb
    unfold frs at hb
    rw [List.filterMap_cons, hf] at hb
    exact hb
theorem Inv.stkFree (I : Inv X pins σ H s) : ∀ b ∈ frs X.stack, H b = none := fun b hb => by
  rcases List.mem_cons.mp (I.stkSub b hb) with e | hb
  · rw [e]; exact I.free
  · obtain ⟨_, o, ho, _⟩ := I.ok.funs.mem hb
    exact I.base.free b o ho (I.ok.frf b hb) fun z => I.ok.exfs b z hb
theorem Inv.step {g' : Array GenState} {t' : Nat} {d' : Drawn} {ch : List Addr} (I : Inv X pins σ H s)
    (hch : ∀ b ∈ ch, (b ∈ X.ex ∨ X.s₀.heap.objs.size ≤ b) ∧ b ≠ X.env.locals ∧ (∀ x c, X.env.cells.lookup x = some c → c ≠ b) ∧ ∀ p ∈ X.pn ++ pins, p.1 ≠ b)
    (keep : ∀ b o, b ≠ X.env.locals → b ∉ X.fs → b ∉ ch → s.heap.get? b = some o → H b = none → h'.get? b = some o)
    (slot : ∀ b o, b ≠ X.env.locals → b ∈ X.fs → b ∉ ch → s.heap.get? b = some o → H b = none → ∃ sl, h'.get? b = some { o with slots := sl }) (free : ∀ b o, b ∉ ch → s.heap.get? b = some o → H b = none → H' b = none)
    (there : ∀ b o, b ∉ ch → s.heap.get? b = some o → ∃ o', h'.get? b = some o')
    (tups : ∀ b xs, H b = some (.tup xs) → H' b = some (.tup xs)) (frzs : ∀ b o u, H b = some (.frz o u) → H' b = some (.frz o u)) (tbls : ∀ b ps, H b = some (.tbl ps) → ∃ more, H' b = some (.tbl (ps ++ more)))
    (ns : ∀ m, s.heap.Ns X.env.locals m → h'.Ns X.env.locals m) (hok : HOk X.prog X.w H' h') (hg : AllBare g') :
    Inv X pins σ H' { s with heap := h', gens := g', drawn := d', toks := t' } := by
  have neL : ∀ b o, X.s₀.heap.get? b = some o → b ≠ X.env.locals := fun b o e => Nat.ne_of_lt (Nat.lt_of_lt_of_le (Heap.lt_size e) I.ok.above)
  have neC : ∀ b o, X.s₀.heap.get? b = some o → b ∉ X.ex → b ∉ ch := fun b o e hx hb => by
    rcases (hch b hb).1 with z | z
    · exact hx z
    · exact absurd (Nat.lt_of_lt_of_le (Heap.lt_size e) z) (Nat.lt_irrefl _)
  have cellK : ∀ x c, X.env.cells.lookup x = some c → ∀ v, s.heap.IsCell c v → h'.IsCell c v := fun x c e v ⟨o, ho, hd⟩ => by
    have nch : c ∉ ch := fun z => (hch c z).2.2.1 x c e rfl
    by_cases hc : c ∈ X.fs
    · obtain ⟨sl, q⟩ := slot c o (I.cne x c e) hc nch ho (I.freeC x c e)
      exact ⟨_, q, hd⟩
    · exact ⟨o, keep c o (I.cne x c e) hc nch ho (I.freeC x c e), hd⟩
  refine ⟨I.ok, I.os, hg, ⟨fun b o e n hb hx => ?_, fun b o e n hb hx => ?_, fun b o e n hx => ?_, fun b o e hx => ?_, fun b xs e => tups b xs (I.base.tups b xs e), fun b o xs e => frzs b o xs (I.base.frzs b o xs e), fun b ps e => ?_⟩, ?_, fun x c e => ?_, ?_, fun x c e => ?_, fun p hp => ?_, hok, I.len⟩
  · exact keep b o (neL b o e) hb (neC b o e hx) (I.base.keep b o e n hb hx) (I.base.free b o e n hx)
  · obtain ⟨sl, e1⟩ := I.base.slot b o e n hb hx
    obtain ⟨sl', e2⟩ := slot b _ (neL b o e) hb (neC b o e hx) e1 (I.base.free b o e n hx)
    exact ⟨sl', e2⟩
  · obtain ⟨o', e1⟩ := I.base.there b o e hx
    exact free b o' (neC b o e hx) e1 (I.base.free b o e n hx)
  · obtain ⟨o', e1⟩ := I.base.there b o e hx
    exact there b o' (neC b o e hx) e1
  · obtain ⟨m1, e1⟩ := I.base.tbls b ps e
    obtain ⟨m2, e2⟩ := tbls b _ e1
    exact ⟨m1 ++ m2, by rw [e2, Array.append_assoc]⟩
  · obtain ⟨m, hn, hl⟩ := I.loc
    refine ⟨m, ns m hn, fun i x v e1 e2 e3 => ?_⟩
    obtain ⟨u, r, l⟩ := hl i x v e1 e2 e3
    refine ⟨u, r, ?_⟩
    rcases l with l | ⟨k, c, e, z⟩
    · exact .inl l
    · exact .inr ⟨k, c, e, cellK x c e _ z⟩
  · obtain ⟨v, z⟩ := I.cell x c e
    exact ⟨v, cellK x c e v z⟩
  · obtain ⟨m, ⟨o, _, _, ho, _⟩, _⟩ := I.loc
    exact free _ o (fun z => (hch _ z).2.1 rfl) ho I.free
  · obtain ⟨v, o, ho, hd⟩ := I.cell x c e
    exact free c o (fun z => (hch c z).2.2.1 x c e rfl) ho (I.freeC x c e)
  · obtain ⟨e, n, ne, nf, d⟩ := I.pin p hp
    have nch : p.1 ∉ ch := fun z => (hch p.1 z).2.2.2 p hp rfl
    exact ⟨keep p.1 p.2 ne nf nch e n, free p.1 p.2 nch e n, ne, nf, d⟩
theorem Inv.un {t' : Nat} (I : Inv X pins σ H s) (u : Un X.fs [] H H' s.heap h') (hok : HOk X.prog X.w H' h') : Inv X pins σ H' { s with heap := h', toks := t' } := by
  obtain ⟨m, ⟨o, es, ep, ho, r⟩, _⟩ := id I.loc
  obtain ⟨sl, hL⟩ := u.any ho I.free (by simp)
  exact I.step (g' := s.gens) (d' := s.drawn) (ch := []) (fun _ z => nomatch z) (fun b o _ hb _ e n => u.keep b o e n hb (by simp)) (fun b o _ hb _ e n => u.slot b o e n hb (by simp)) (fun b o _ e n => u.free b o e n (by simp)) (fun b o _ e => u.there b o e (by simp)) u.tups u.frzs u.tbls (fun m' hm => by
    obtain ⟨o', es', ep', ho', r'⟩ := hm
    rw [ho] at ho'; cases ho'
    exact ⟨_, es', ep', hL, r'⟩) hok I.bare
theorem Inv.call {g' : Array GenState} {t' : Nat} {d' : Drawn} {ch : List Addr} (I : Inv X pins σ H s) (u : Un (frs X.stack) ch H H' s.heap h') (hok : HOk X.prog X.w H' h') (hg : AllBare g')
    (hch : ∀ b ∈ ch, (b ∈ X.ex ∨ X.s₀.heap.objs.size ≤ b) ∧ b ≠ X.env.locals ∧ (∀ x c, X.env.cells.lookup x = some c → c ≠ b) ∧ ∀ p ∈ X.pn ++ pins, p.1 ≠ b) :
    Inv X pins σ H' { s with heap := h', gens := g', drawn := d', toks := t' } := by
  obtain ⟨m, ⟨o, es, ep, ho, r⟩, _⟩ := id I.loc
  obtain ⟨sl, hL⟩ := u.any ho I.free fun z => (hch _ z).2.1 rfl
  exact I.step (ch := ch) hch (fun b o hL hb hc e n => u.keep b o e n (fun z => (List.mem_cons.mp (I.stkSub b z)).elim hL hb) hc) (fun b o _ _ hc e n => u.any e n hc) (fun b o hc e n => u.free b o e n hc) (fun b o hc e => u.there b o e hc) u.tups u.frzs u.tbls (fun m' hm => by
    obtain ⟨o', es', ep', ho', r'⟩ := hm
    rw [ho] at ho'; cases ho'
    exact ⟨_, es', ep', hL, r'⟩) hok hg
theorem Inv.turned {t' : Nat} {it : Addr} (I : Inv X pins σ H s) (k : ∀ b o, b ≠ it → s.heap.get? b = some o → h'.get? b = some o) (hn : H it = none) (hL : it ≠ X.env.locals)
    (h1 : it ∈ X.ex ∨ X.s₀.heap.objs.size ≤ it) (h2 : ∀ x c, X.env.cells.lookup x = some c → c ≠ it) (h3 : ∀ p ∈ X.pn ++ pins, p.1 ≠ it) : Inv X pins σ H { s with heap := h', toks := t' } := by
  have nit : ∀ b u, H b = some u → b ≠ it := fun b u e z => by rw [z, hn] at e; cases e
  refine I.step (g' := s.gens) (d' := s.drawn) (ch := [it]) (fun b hb => ?_) (fun b o _ _ hc e _ => k b o (fun z => hc (by simp [z])) e) (fun b o _ _ hc e _ => ⟨o.slots, k b o (fun z => hc (by simp [z])) e⟩) (fun _ _ _ _ n => n)
    (fun b o hc e => ⟨o, k b o (fun z => hc (by simp [z])) e⟩) (fun _ _ e => e) (fun _ _ _ e => e) (fun b ps e => ⟨#[], by rw [e]; simp⟩) (fun m hm => ?_) (fun b u e => ?_) I.bare
  · have e : b = it := by simpa using hb
    subst e
    exact ⟨h1, hL, h2, h3⟩
  · obtain ⟨o, es, ep, ho, r⟩ := hm
    exact ⟨o, es, ep, k _ o (Ne.symm hL) ho, r⟩
  · refine (I.hok b u e).stay (fun c v hc q => k c v ?_ q) (fun _ q => q) fun _ _ q => q
    rcases hc with z | z
    · rw [z]; exact nit b u e
    · exact nit c _ z
theorem Inv.tok (I : Inv X pins σ H s) (t : Nat) : Inv X pins σ H { s with toks := t } := I.un (h' := s.heap) (t' := t) Un.refl I.hok
theorem Inv.kept {t' : Nat} (I : Inv X pins σ H s) (k : ∀ b u, s.heap.get? b = some u → h'.get? b = some u) : Inv X pins σ H { s with heap := h', toks := t' } := I.un (Un.kept k) (I.hok.kept k)
theorem Inv.laid {a : Addr} {o : HO} {t' : Nat} (I : Inv X pins σ H s) (k : ∀ b u, s.heap.get? b = some u → h'.get? b = some u) (hp : s.heap.objs.size ≤ a) (new : ObjOk X.prog X.w (upd H a o) h' a o) :
    Inv X pins σ (upd H a o) { s with heap := h', toks := t' } := I.un (Un.laid k hp (I.hok.fresh hp)) (I.hok.laid k hp new)
theorem Inv.write {x e : Addr} {o : HO} {t' : Nat} (I : Inv X pins σ H s) (mu : Mut (H x)) (he : e = x ∨ H e = some (.own x)) (k : ∀ b u, b ≠ e → s.heap.get? b = some u → h'.get? b = some u) (heo : ∃ u, h'.get? e = some u)
    (new : ObjOk X.prog X.w (upd H x o) h' x o) : Inv X pins σ (upd H x o) { s with heap := h', toks := t' } := I.un (Un.write mu he k heo) (I.hok.write mu he k heo new)
theorem Inv.pins_of {pins' : List (Addr × Obj)} (I : Inv X pins σ H s) (h : ∀ p ∈ pins', s.heap.get? p.1 = some p.2 ∧ H p.1 = none ∧ p.1 ≠ X.env.locals ∧ p.1 ∉ X.fs ∧ ∀ v, p.2.data ≠ .cell v) : Inv X pins' σ H s :=
  ⟨I.ok, I.os, I.bare, I.base, I.loc, I.cell, I.free, I.freeC, fun p hp => (List.mem_append.mp hp).elim (fun z => I.pin p (List.mem_append_left _ z)) (h p), I.hok, I.len⟩

theorem nodup_ix {N : List Str} (hN : N.Nodup) {i j : Nat} {x : Str} (a : N[i]? = some x) (b : N[j]? = some x) : i = j := by
  obtain ⟨h1, e1⟩ := List.getElem?_eq_some_iff.mp a
  obtain ⟨h2, e2⟩ := List.getElem?_eq_some_iff.mp b
  exact (List.getElem_inj hN).mp (e1.trans e2.symm)
theorem store_ok2 {M : Model} {A : Around} {E : Value → Shared → Prop} {i : Nat} {x : Str} {v : V} {u : Value} {Q : Unit → Shared → Prop} (I : Inv X pins σ H s) (hN : X.N.Nodup) (hi : X.N[i]? = some x) (hx : Loc X.env.scope x) (r : RelV v u)
    (h : ∀ s', Inv X pins (σ.set i (some v)) H s' → (∃ a, Heap.SameBut a s.heap s'.heap ∧ (a = X.env.locals ∨ X.env.cells.lookup x = some a)) → Q () s') (hf : X.fn x = true ∨ X.env.scope.names.lookup x = some .local := by first | exact .inl rfl | exact .inr rfl | assumption) : wpAny M A (storeName X.env x u) Q E s := by
  obtain ⟨m, hn, hl⟩ := id I.loc
  have hcls : (X.env.scope.kind == .class || (X.env.scope.kind == .module && X.env.locals != X.env.globals)) = false := by rw [I.ok.kind]; rfl
  have hiσ : i < σ.length := by rw [I.len]; exact (List.getElem?_eq_some_iff.mp hi).1
  have cne := I.cne
  have tracked : ∀ {a : Addr} {h' : Heap}, (∃ o, s.heap.get? a = some o ∧ H a = none) → Heap.SameBut a s.heap h' → HOk X.prog X.w H h' := fun {a h'} ha hs b ob e => by
    obtain ⟨_, _, hfree⟩ := ha
    refine (I.hok b ob e).stay (fun c w' hc q => (hs.2 c ?_).trans q) (fun _ q => q) fun _ _ q => q
    rintro rfl
    rcases hc with rfl | hc
    · rw [hfree] at e; cases e
    · rw [hfree] at hc; cases hc
  rcases hx with hk | hk
  · refine wpAny_storeName_local hk hn (fun h' hn' hs => ?_) hcls
    obtain ⟨oL, _, _, hoL, _⟩ := id hn
    refine h _ ⟨I.ok, I.os, I.bare, ⟨fun b o e n hb hx => ?_, fun b o e n hb hx => ?_, I.base.free, fun b o e hx => ?_, I.base.tups, I.base.frzs, I.base.tbls⟩, ⟨_, hn', fun j y v' e1 e2 e3 => ?_⟩, fun y c e => ?_, I.free, I.freeC, fun p hp => ?_, tracked ⟨oL, hoL, I.free⟩ hs, by simpa using I.len⟩ ⟨_, hs, .inl rfl⟩
    · exact (hs.2 b (Nat.ne_of_lt (Nat.lt_of_lt_of_le (Heap.lt_size e) I.ok.above))).trans (I.base.keep b o e n hb hx)
    · obtain ⟨sl, e1⟩ := I.base.slot b o e n hb hx
      exact ⟨sl, (hs.2 b (Nat.ne_of_lt (Nat.lt_of_lt_of_le (Heap.lt_size e) I.ok.above))).trans e1⟩
    · obtain ⟨o', e1⟩ := I.base.there b o e hx
      exact ⟨o', (hs.2 b (Nat.ne_of_lt (Nat.lt_of_lt_of_le (Heap.lt_size e) I.ok.above))).trans e1⟩
    · by_cases hj : j = i
      · subst hj
        rw [hi] at e1; cases e1
        rw [List.getElem?_set_self hiσ] at e2
        cases e2
        exact ⟨u, r, .inl ⟨hk, by simp⟩⟩
      · rw [List.getElem?_set_ne (Ne.symm hj)] at e2
        obtain ⟨u', r', q⟩ := hl j y v' e1 e2 e3
        refine ⟨u', r', ?_⟩
        rcases q with ⟨k, e⟩ | ⟨k, c, e, z⟩
        · refine .inl ⟨k, ?_⟩
          have : y ≠ x := fun e => hj (nodup_ix hN e1 (e ▸ hi))
          simp [this, e]
        · exact .inr ⟨k, c, e, z.sameBut hs (cne y c e)⟩
    · obtain ⟨w', z⟩ := I.cell y c e
      exact ⟨w', z.sameBut hs (cne y c e)⟩
    · obtain ⟨e, n, ne, nf, d⟩ := I.pin p hp
      exact ⟨(hs.2 p.1 ne).trans e, n, ne, nf, d⟩
  · have hfn : X.fn x = true := by
      rcases hf with z | z
      · exact z
      · rw [z] at hk; cases hk
    obtain ⟨c, hc⟩ := I.ok.has x (.inl hk)
    obtain ⟨w', z⟩ := I.cell x c hc
    refine wpAny_storeName_cell I.ok.kind hk hc z (fun h' hc' hs => ?_)
    obtain ⟨oc, hoc, hocd⟩ := id z
    refine h { s with heap := h' } ⟨I.ok, I.os, I.bare, ⟨fun b o e n hb hx => ?_, fun b o e n hb hx => ?_, I.base.free, fun b o e hx => ?_, I.base.tups, I.base.frzs, I.base.tbls⟩, ⟨m, hn.sameBut hs (Ne.symm (cne x c hc)), fun j y v' e1 e2 e3 => ?_⟩, fun y c' e => ?_, I.free, I.freeC, fun p hp => ?_, tracked ⟨oc, hoc, I.freeC x c hc⟩ hs, by simpa using I.len⟩ ⟨c, hs, .inr hc⟩
    · exact (hs.2 b (Nat.ne_of_lt (Nat.lt_of_lt_of_le (Heap.lt_size e) (I.ok.cab x c hfn hc)))).trans (I.base.keep b o e n hb hx)
    · obtain ⟨sl, e1⟩ := I.base.slot b o e n hb hx
      exact ⟨sl, (hs.2 b (Nat.ne_of_lt (Nat.lt_of_lt_of_le (Heap.lt_size e) (I.ok.cab x c hfn hc)))).trans e1⟩
    · obtain ⟨o', e1⟩ := I.base.there b o e hx
      exact ⟨o', (hs.2 b (Nat.ne_of_lt (Nat.lt_of_lt_of_le (Heap.lt_size e) (I.ok.cab x c hfn hc)))).trans e1⟩
    · by_cases hj : j = i
      · subst hj
        rw [hi] at e1; cases e1
        rw [List.getElem?_set_self hiσ] at e2
        cases e2
        exact ⟨u, r, .inr ⟨.inl hk, c, hc, hc'⟩⟩
      · rw [List.getElem?_set_ne (Ne.symm hj)] at e2
        obtain ⟨u', r', q⟩ := hl j y v' e1 e2 e3
        refine ⟨u', r', ?_⟩
        rcases q with q | ⟨k, c', e, z'⟩
        · exact .inl q
        · refine .inr ⟨k, c', e, z'.sameBut hs ?_⟩
          rintro rfl
          exact hj (nodup_ix hN e1 (I.ok.inj _ _ _ e hc ▸ hi))
    · by_cases hcc : c' = c
      · subst hcc; exact ⟨_, hc'⟩
      · obtain ⟨w2, z2⟩ := I.cell y c' e
        exact ⟨w2, z2.sameBut hs hcc⟩
    · obtain ⟨e, n, ne, nf, d⟩ := I.pin p hp
      refine ⟨(hs.2 p.1 ?_).trans e, n, ne, nf, d⟩
      intro q
      rw [q, hoc] at e
      have q' : oc = p.2 := Option.some.inj e
      exact d w' (by rw [← q']; exact hocd)
theorem store_ok {M : Model} {A : Around} {E : Value → Shared → Prop} {i : Nat} {x : Str} {v : V} {u : Value} {Q : Unit → Shared → Prop} (I : Inv X pins σ H s) (hN : X.N.Nodup) (hi : X.N[i]? = some x) (hx : Loc X.env.scope x) (r : RelV v u)
    (h : ∀ s', Inv X pins (σ.set i (some v)) H s' → Q () s') (hf : X.fn x = true ∨ X.env.scope.names.lookup x = some .local := by first | exact .inl rfl | exact .inr rfl | assumption) : wpAny M A (storeName X.env x u) Q E s :=
  store_ok2 I hN hi hx r (fun s' I' _ => h s' I') hf
theorem Inv.call' {s' : Shared} {ch : List Addr} (I : Inv X pins σ H s) (ho : s'.os = s.os) (u : Un (frs X.stack) ch H H' s.heap s'.heap) (hok : HOk X.prog X.w H' s'.heap) (hg : AllBare s'.gens)
    (hch : ∀ b ∈ ch, (b ∈ X.ex ∨ X.s₀.heap.objs.size ≤ b) ∧ b ≠ X.env.locals ∧ (∀ x c, X.env.cells.lookup x = some c → c ≠ b) ∧ ∀ p ∈ X.pn ++ pins, p.1 ≠ b) : Inv X pins σ H' s' := by
  obtain ⟨h', g', d', t', o'⟩ := s'
  have e : o' = s.os := ho
  subst e
  exact I.call (g' := g') (t' := t') (d' := d') u hok hg hch
end
abbrev XK := Value → Option Addr → Hp → Prop
abbrev St := List (Option V)
abbrev VK := V → Hp → Prop
abbrev TE := St → Hp → VK → Prop
abbrev TT := St → Hp → (Bool → Hp → Prop) → Prop
abbrev TA := St → Hp → (List V → Hp → Prop) → Prop
structure Ends where
  nx : St → Hp → Prop
  rt : VK
  bk : St → Hp → Prop := fun _ _ => False
  ct : St → Hp → Prop := fun _ _ => False
abbrev TS := Ends → St → Hp → Prop

def EP (X : Cx) (pins : List (Addr × Obj)) (σ : St) (Q : VK) (u : Value) (s' : Shared) : Prop := ∃ v H', Inv X pins σ H' s' ∧ RelV v u ∧ Q v H'
def TP (X : Cx) (pins : List (Addr × Obj)) (σ : St) (Q : Bool → Hp → Prop) (b : Bool) (s' : Shared) : Prop := ∃ H', Inv X pins σ H' s' ∧ Q b H'
def AP (X : Cx) (pins : List (Addr × Obj)) (σ : St) (Q : List V → Hp → Prop) (us : List Value) (s' : Shared) : Prop := ∃ vs H', Inv X pins σ H' s' ∧ Vals vs us ∧ Q vs H'
def SP (X : Cx) (pins : List (Addr × Obj)) (D : Ends) (f : Flow) (s' : Shared) : Prop :=
  match f with
  | .next => ∃ σ' H', Inv X pins σ' H' s' ∧ D.nx σ' H'
  | .brk => ∃ σ' H', Inv X pins σ' H' s' ∧ D.bk σ' H'
  | .cont => ∃ σ' H', Inv X pins σ' H' s' ∧ D.ct σ' H'
  | .ret u => ∃ v σ' H', Inv X pins σ' H' s' ∧ RelV v u ∧ D.rt v H'

def PE (X : Cx) (e : Expr) (t : TE) : Prop :=
  ∀ (pins : List (Addr × Obj)) (s : Shared) (σ : St) (H : Hp) (Q : VK), Inv X pins σ H s → t σ H Q → wpAny (model X.prog X.w) X.A (eval e X.env) (EP X pins σ Q) X.xe s
def PT (X : Cx) (e : Expr) (t : TT) : Prop :=
  ∀ (pins : List (Addr × Obj)) (s : Shared) (σ : St) (H : Hp) (Q : Bool → Hp → Prop), Inv X pins σ H s → t σ H Q → wpAny (model X.prog X.w) X.A (isTrue e X.env (eval e X.env)) (TP X pins σ Q) X.xe s
def PW (X : Cx) (e : Expr) (t : TT) : Prop :=
  ∀ (whole : Sem Value) (pins : List (Addr × Obj)) (s : Shared) (σ : St) (H : Hp) (Q : Bool → Hp → Prop), Inv X pins σ H s → t σ H Q → wpAny (model X.prog X.w) X.A (isTrue e X.env whole) (TP X pins σ Q) X.xe s
theorem PW.pt {X : Cx} {e : Expr} {t : TT} (h : PW X e t) : PT X e t := h _
def PA (X : Cx) (es : List Expr) (t : TA) : Prop :=
  ∀ (pos : Pos) (pins : List (Addr × Obj)) (s : Shared) (σ : St) (H : Hp) (Q : List V → Hp → Prop), Inv X pins σ H s → t σ H Q → wpAny (model X.prog X.w) X.A (spliced (backTo pos (starEach es X.env))) (AP X pins σ Q) X.xe s
def PS (X : Cx) (st : Stmt) (t : TS) : Prop :=
  ∀ (pins : List (Addr × Obj)) (s : Shared) (σ : St) (H : Hp) (D : Ends), Inv X pins σ H s → t D σ H → wpAny (model X.prog X.w) X.A (exec st X.env) (SP X pins D) X.xe s
def PSs (X : Cx) (st : List Stmt) (t : TS) : Prop :=
  ∀ (pins : List (Addr × Obj)) (s : Shared) (σ : St) (H : Hp) (D : Ends), Inv X pins σ H s → t D σ H → wpAny (model X.prog X.w) X.A (execs st X.env) (SP X pins D) X.xe s
theorem thn {α : Type} {t : Sem α} {Q Q' : α → Shared → Prop} {M : Model} {A : Around} {E : Value → Shared → Prop} {s : Shared} (h : wpAny M A t Q E s) (hQ : ∀ a s, Q a s → Q' a s) : wpAny M A t Q' E s := wpAny_mono h hQ fun _ _ x => x
end L2

namespace L2
open PySem PySem.Spec PyProof.Rows
section
variable {X : Cx}
def tVar (i : Nat) : TE := fun σ H Q => ∃ v, σ[i]? = some (some v) ∧ Q v H
def tC (v : V) : TE := fun _ H Q => Q v H
theorem pe_var {i : Nat} {x : Str} {pos : Pos} (hN : X.N[i]? = some x) (hv : Vis X.env.scope x) (hd : (x == ("__debug__" : Str)) = false := by decide) (hcd : (x == ("__classdict__" : Str)) = false := by decide) : PE X (.Name x pos) (tVar i) := by
  intro pins s σ H Q I h
  obtain ⟨v, e, h⟩ := h
  obtain ⟨m, hn, hl⟩ := I.loc
  obtain ⟨u, r, l⟩ := hl i x v hN e hv
  have fin : EP X pins σ Q u s := ⟨v, H, I, r, h⟩
  rcases l with ⟨hk, hm⟩ | ⟨hk, c, hc, hcell⟩
  · exact wpAny_Name (wpAny_loadName_local I.ok.kind hk hn hm fin) hd
  · rcases hk with hk | hk
    · exact wpAny_Name (wpAny_loadName_cell I.ok.kind hk hc hcell fin) hd
    · exact wpAny_Name (wpAny_loadName_free I.ok.kind hk hc hcell fin hcd) hd
theorem pe_int {i j pos} : PE X (.Constant (.int i) j pos) (tC (.int i)) := fun _ _ _ H _ I h => wpAny_Constant_int ⟨.int i, H, I.tok _, ⟨_, rfl⟩, h⟩
theorem pe_bl {b j pos} : PE X (.Constant (.bool b) j pos) (tC (.bl b)) := fun _ _ _ H _ I h => Constant_bool ⟨.bl b, H, I, rfl, h⟩
theorem pe_non {j pos} : PE X (.Constant .none j pos) (tC .non) := fun _ _ _ H _ I h => Constant_none ⟨.non, H, I, rfl, h⟩
theorem pe_str {x j pos} : PE X (.Constant (.str x) j pos) (tC (.str x)) := fun _ _ _ H _ I h => Calls.Constant_str ⟨.str x, H, I.tok _, ⟨_, rfl⟩, h⟩
def Gl (X : Cx) (x : Str) : Prop := X.env.kindOf x = some .globalImplicit
theorem ld_glob {E : Value → Shared → Prop} {pins : List (Addr × Obj)} {s : Shared} {σ : St} {H : Hp} {x : Str} {u : Value} {pos : Pos} {Q : Value → Shared → Prop} (I : Inv X pins σ H s) (hg : Gl X x) (hm : X.mg x = some u) (h : Q u s)
    (hd : (x == ("__debug__" : Str)) = false := by decide) : wpAny (model X.prog X.w) X.A (eval (.Name x pos) X.env) Q E s :=
  Calls.Name_function_global I.ok.kind hg (Calls.loadGlobal_global (by rw [I.ok.glob]; exact I.mod.glob.keeps I.bk) hm h) hd
theorem ld_blt {E : Value → Shared → Prop} {pins : List (Addr × Obj)} {s : Shared} {σ : St} {H : Hp} {x : Str} {u : Value} {pos : Pos} {Q : Value → Shared → Prop} (I : Inv X pins σ H s) (hg : Gl X x) (hm : X.mg x = none) (hv : bootBuiltins x = some u) (h : Q u s)
    (hn : x ≠ "__name__" := by decide) (hd : (x == ("__debug__" : Str)) = false := by decide) : wpAny (model X.prog X.w) X.A (eval (.Name x pos) X.env) Q E s := by
  obtain ⟨mb, h1, h2⟩ := I.mod.blt
  exact Calls.Name_function_global I.ok.kind hg (Calls.loadGlobal_builtin (by rw [I.ok.glob]; exact I.mod.glob.keeps I.bk) hm (by rw [I.ok.blt]; exact h1.keeps I.bk) ((h2 x hn).trans hv) h) hd
theorem pe_glob {x : Str} {v : V} {u : Value} {pos : Pos} (hg : Gl X x) (hm : X.mg x = some u) (r : RelV v u) (hd : (x == ("__debug__" : Str)) = false := by decide) : PE X (.Name x pos) (tC v) :=
  fun _ _ _ H _ I h => ld_glob I hg hm ⟨v, H, I, r, h⟩ hd
theorem pe_bltn {x : Str} {v : V} {u : Value} {pos : Pos} (hg : Gl X x) (hm : X.mg x = none) (hv : bootBuiltins x = some u) (r : RelV v u) (hn : x ≠ "__name__" := by decide) (hd : (x == ("__debug__" : Str)) = false := by decide) : PE X (.Name x pos) (tC v) :=
  fun _ _ _ H _ I h => ld_blt I hg hm hv ⟨v, H, I, r, h⟩ hn hd
variable {a b : Expr} {ta tb : TE} {pos : Pos}
def tB (t : TE) : TT := fun σ H Q => t σ H fun x H1 => ∃ c, x = .bl c ∧ Q c H1
theorem pt_val {e : Expr} {t : TE} (h : PE X e t) (he : ∀ whole, isTrue e X.env whole = (do let v ← whole; standAt e.pos; holding [v] (truthy v)) := by intro _; rfl) : PT X e (tB t) := by
  intro pins s σ H Q I hw
  refine isTrue_plain (thn (h pins s σ H _ I hw) fun v s1 ⟨x, H1, I1, r1, q1⟩ => ?_) (he _)
  obtain ⟨d, rfl, q⟩ := q1
  cases r1
  exact wpAny_truthy_bool ⟨H1, I1, q⟩
variable {tA tB' : TT} {rest : List Expr}
def tAnd (t u : TT) : TT := fun σ H Q => t σ H fun c H1 => if c = true then u σ H1 Q else Q false H1
def tOr (t u : TT) : TT := fun σ H Q => t σ H fun c H1 => if c = true then Q true H1 else u σ H1 Q
def tNot (t : TT) : TT := fun σ H Q => t σ H fun c H1 => Q (!c) H1
theorem pw_and1 (ha : PT X a tA) : PW X (.BoolOp .And [a] pos) tA := by
  intro wh pins s σ H Q I h
  refine isTrue_and (thn (ha pins s σ H Q I h) fun c s1 e => ?_)
  cases c with
  | true => exact isTrue_and_nil e
  | false => exact e
theorem pw_or1 (ha : PT X a tA) : PW X (.BoolOp .Or [a] pos) tA := by
  intro wh pins s σ H Q I h
  refine isTrue_or (thn (ha pins s σ H Q I h) fun c s1 e => ?_)
  cases c with
  | false => exact isTrue_or_nil e
  | true => exact e
theorem pw_and (ha : PT X a tA) (hb : PW X (.BoolOp .And (b :: rest) pos) tB') : PW X (.BoolOp .And (a :: b :: rest) pos) (tAnd tA tB') := by
  intro wh pins s σ H Q I h
  refine isTrue_and (thn (ha pins s σ H _ I h) fun c s1 ⟨H1, I1, q1⟩ => ?_)
  cases c with
  | true => exact hb wh pins s1 σ H1 Q I1 q1
  | false => exact ⟨H1, I1, q1⟩
theorem pw_or (ha : PT X a tA) (hb : PW X (.BoolOp .Or (b :: rest) pos) tB') : PW X (.BoolOp .Or (a :: b :: rest) pos) (tOr tA tB') := by
  intro wh pins s σ H Q I h
  refine isTrue_or (thn (ha pins s σ H _ I h) fun c s1 ⟨H1, I1, q1⟩ => ?_)
  cases c with
  | true => exact ⟨H1, I1, q1⟩
  | false => exact hb wh pins s1 σ H1 Q I1 q1
theorem pt_not (ha : PT X a tA) : PT X (.UnaryOp .Not a pos) (tNot tA) := by
  intro pins s σ H Q I h
  exact isTrue_not (ha pins s σ H (fun c H1 => Q (!c) H1) I h)
def tAndV (ta tb : TE) : TE := fun σ H Q => ta σ H fun x H1 => ∃ c, x = .bl c ∧ if c = true then tb σ H1 Q else Q (.bl false) H1
theorem pe_one {op} {t : TE} (h : PE X a t) : PE X (.BoolOp op [a] pos) t := fun pins s σ H Q I hw => BoolOp_one (h pins s σ H Q I hw)
theorem pe_and (ha : PE X a ta) (hb : PE X (.BoolOp .And (b :: rest) pos) tb) : PE X (.BoolOp .And (a :: b :: rest) pos) (tAndV ta tb) := by
  intro pins s σ H Q I h
  refine BoolOp_and (thn (ha pins s σ H _ I h) fun v s1 ⟨x, H1, I1, r1, q1⟩ => ?_)
  obtain ⟨c, rfl, q1⟩ := q1
  cases r1
  refine wpAny_truthy_bool ?_
  cases c with
  | true => exact hb pins s1 σ H1 Q I1 q1
  | false => exact ⟨.bl false, H1, I1, rfl, q1⟩
def tIf (t : TT) (ta tb : TE) : TE := fun σ H Q => t σ H fun c H1 => if c = true then ta σ H1 Q else tb σ H1 Q
theorem pe_ifExp {c : Expr} (hc : PT X c tA) (ha : PE X a ta) (hb : PE X b tb) : PE X (.IfExp c a b pos) (tIf tA ta tb) := by
  intro pins s σ H Q I h
  refine wpAny_IfExp (thn (hc pins s σ H _ I h) fun d s1 ⟨H1, I1, q1⟩ => ?_)
  cases d with
  | true => exact ha pins s1 σ H1 Q I1 q1
  | false => exact hb pins s1 σ H1 Q I1 q1
end
end L2

namespace L2
open PySem PySem.Spec PyProof.Rows
def SqL (K : PySem.W.Frag) (H : Hp) (a : Addr) (xs : List V) : Prop :=
  Rd H a (.lst xs) ∨
    ∃ (o : Obj) (its : Array Value) (n : Nat), K.lookup a = some o ∧ o.cls = .type "list" ∧ o.dict = none ∧ o.data = .seq its n ∧ its.size ≤ sizeLine ∧ Vals xs its.toList
def SqT (K : PySem.W.Frag) (H : Hp) (a : Addr) (xs : List V) : Prop :=
  Rd H a (.tup xs) ∨
    ∃ (o : Obj) (its : Array Value) (n : Nat), K.lookup a = some o ∧ o.cls = .type "tuple" ∧ o.data = .seq its n ∧ its.size ≤ sizeLine ∧ Vals xs its.toList
def absV : Value → Option V
  | .none => some .non
  | .bool b => some (.bl b)
  | .int i _ => some (.int i)
  | .str x _ => some (.str x)
  | .bytes b _ => some (.byt b)
  | .float b _ => some (.flt b)
  | .ref a => some (.ref a)
  | .type n => some (.ty n)
  | _ => none
theorem RelV.abs {x : V} {u : Value} (r : RelV x u) : absV u = some x := by
  cases x with
  | non => cases r; rfl
  | bl _ => cases r; rfl
  | int _ => obtain ⟨t, rfl⟩ := r; rfl
  | str _ => obtain ⟨t, rfl⟩ := r; rfl
  | byt _ => obtain ⟨t, rfl⟩ := r; rfl
  | flt _ => obtain ⟨t, rfl⟩ := r; rfl
  | ref _ => cases r; rfl
  | ty _ => cases r; rfl
theorem RelV.inj {x y : V} {u : Value} (r : RelV x u) (q : RelV y u) : x = y := Option.some.inj (r.abs.symm.trans q.abs)
theorem Vals.inj : ∀ {xs ys : List V} {us : List Value}, Vals xs us → Vals ys us → xs = ys
  | _, _, _, .nil, .nil => rfl
  | _, _, _, .cons r t, .cons r' t' => by rw [r.inj r', Vals.inj t t']
section
variable {X : Cx} {pins : List (Addr × Obj)} {σ : St} {H : Hp} {s : Shared} {a : Addr} {xs ys : List V}
theorem SqL.of {K : PySem.W.Frag} (h : H a = some (.lst xs)) : SqL K H a xs := .inl (.inl h)
theorem SqT.of {K : PySem.W.Frag} (h : H a = some (.tup xs)) : SqT K H a xs := .inl (.inl h)
theorem Inv.list (I : Inv X pins σ H s) (h : SqL X.K H a xs) : ∃ its : List Value, Vals xs its ∧ PlainL s.heap a its.toArray ∧ xs.length ≤ sizeLine := by
  rcases h with h | ⟨o, its, n, hk, hc, hd, hs, hz, r⟩
  · obtain ⟨z, its, n, r, e⟩ := h.ok I.hok
    exact ⟨its, r, ⟨_, n, e, rfl, rfl, rfl⟩, z⟩
  · refine ⟨its.toList, r, ⟨o, n, I.kIn a o hk, hc, hd, by simpa using hs⟩, ?_⟩
    have e := r.length
    simp only [Array.length_toList] at e
    omega
theorem Inv.tuple (I : Inv X pins σ H s) (h : SqT X.K H a xs) : ∃ its : List Value, Vals xs its ∧ IsTup s.heap a its.toArray ∧ xs.length ≤ sizeLine := by
  rcases h with h | ⟨o, its, n, hk, hc, hs, hz, r⟩
  · obtain ⟨z, its, r, p⟩ := h.ok I.hok
    exact ⟨its, r, p, z⟩
  · refine ⟨its.toList, r, ⟨o, I.kIn a o hk, hc, n, by simpa using hs⟩, ?_⟩
    have e := r.length
    simp only [Array.length_toList] at e
    omega
theorem Inv.list_inj (I : Inv X pins σ H s) (h : SqL X.K H a xs) (h' : SqL X.K H a ys) : xs = ys := by
  obtain ⟨its, r, ⟨o, n, e, _, _, d⟩, _⟩ := I.list h
  obtain ⟨its', r', ⟨o', n', e', _, _, d'⟩, _⟩ := I.list h'
  rw [e] at e'; cases e'
  rw [d] at d'
  injection d' with d1 _
  have : its = its' := by simpa using congrArg Array.toList d1
  subst this
  exact r.inj r'
theorem Inv.tuple_inj (I : Inv X pins σ H s) (h : SqT X.K H a xs) (h' : SqT X.K H a ys) : xs = ys := by
  obtain ⟨its, r, ⟨o, e, _, n, d⟩, _⟩ := I.tuple h
  obtain ⟨its', r', ⟨o', e', _, n', d'⟩, _⟩ := I.tuple h'
  rw [e] at e'; cases e'
  rw [d] at d'
  injection d' with d1 _
  have : its = its' := by simpa using congrArg Array.toList d1
  subst this
  exact r.inj r'
end
abbrev Cx.wish (X : Cx) (E : Value → Shared → Prop) : Cx := { X with xe := E }
abbrev Cx.nox (X : Cx) : Cx := X.wish fun _ _ => False
theorem Cx.Ok.wish {X : Cx} (ok : X.Ok) (E : Value → Shared → Prop) : (X.wish E).Ok :=
  ⟨ok.mod, ok.kind, ok.glob, ok.blt, ok.above, ok.inj, ok.has, ok.cab, ok.hd, ok.frames, ok.stk, ok.exf, ok.bs, ok.bsz, ok.noex, ok.exfs, ok.funs, ok.frf⟩
theorem Cx.Ok.unwish {X : Cx} {E : Value → Shared → Prop} (ok : (X.wish E).Ok) : X.Ok :=
  ⟨ok.mod, ok.kind, ok.glob, ok.blt, ok.above, ok.inj, ok.has, ok.cab, ok.hd, ok.frames, ok.stk, ok.exf, ok.bs, ok.bsz, ok.noex, ok.exfs, ok.funs, ok.frf⟩
section
variable {X : Cx} {pins : List (Addr × Obj)} {σ : St} {H : Hp} {s : Shared} {E : Value → Shared → Prop}
theorem Inv.wish (I : Inv X pins σ H s) (E : Value → Shared → Prop) : Inv (X.wish E) pins σ H s := ⟨I.ok.wish E, I.os, I.bare, I.base, I.loc, I.cell, I.free, I.freeC, I.pin, I.hok, I.len⟩
theorem Inv.unwish (I : Inv (X.wish E) pins σ H s) : Inv X pins σ H s := ⟨I.ok.unwish, I.os, I.bare, I.base, I.loc, I.cell, I.free, I.freeC, I.pin, I.hok, I.len⟩
theorem SP.unwish {D : Ends} {f : Flow} {s' : Shared} (h : SP (X.wish E) pins D f s') : SP X pins D f s' := by
  cases f with
  | next => obtain ⟨σ', H', I, q⟩ := h; exact ⟨σ', H', I.unwish, q⟩
  | brk => obtain ⟨σ', H', I, q⟩ := h; exact ⟨σ', H', I.unwish, q⟩
  | cont => obtain ⟨σ', H', I, q⟩ := h; exact ⟨σ', H', I.unwish, q⟩
  | ret u => obtain ⟨v, σ', H', I, r, q⟩ := h; exact ⟨v, σ', H', I.unwish, r, q⟩
theorem PE.nox {e : Expr} {t : TE} (h : PE X.nox e t) : PE X e t := fun pins s σ H Q I hw =>
  wpAny_mono (h pins s σ H Q (I.wish _) hw) (fun _ _ ⟨v, H', I', r, q⟩ => ⟨v, H', I'.unwish, r, q⟩) fun _ _ z => False.elim z
theorem PT.nox {e : Expr} {t : TT} (h : PT X.nox e t) : PT X e t := fun pins s σ H Q I hw =>
  wpAny_mono (h pins s σ H Q (I.wish _) hw) (fun _ _ ⟨H', I', q⟩ => ⟨H', I'.unwish, q⟩) fun _ _ z => False.elim z
theorem PSs.nox {st : List Stmt} {t : TS} (h : PSs X.nox st t) : PSs X st t := fun pins s σ H D I hw =>
  wpAny_mono (h pins s σ H D (I.wish _) hw) (fun _ _ q => q.unwish) fun _ _ z => False.elim z
end
section
variable {X : Cx} {st : Stmt} {rest : List Stmt} {t u : TS} {e : Expr} {te : TE} {pos : Pos}
def tNext : TS := fun D σ H => D.nx σ H
def tSeq (t u : TS) : TS := fun D σ H => t { D with nx := u D } σ H
theorem pss_nil : PSs X [] tNext := fun _ _ σ H _ I h => wpAny_execs_nil ⟨σ, H, I, h⟩
theorem pss_cons (h1 : PS X st t) (h2 : PSs X rest u) : PSs X (st :: rest) (tSeq t u) := by
  intro pins s σ H D I h
  refine wpAny_execs_cons (thn (h1 pins s σ H { D with nx := u D } I h) fun f s1 q => ?_)
  cases f with
  | next =>
    obtain ⟨σ', H', I', q⟩ := q
    exact h2 pins s1 σ' H' D I' q
  | ret v => exact q
  | brk => exact q
  | cont => exact q
theorem pss_one (h1 : PS X st t) : PSs X [st] t := by
  intro pins s σ H D I h
  refine wpAny_execs_cons (thn (h1 pins s σ H D I h) fun f s1 q => ?_)
  cases f with
  | next => exact wpAny_execs_nil q
  | ret v => exact q
  | brk => exact q
  | cont => exact q
theorem Inv.quiet {pins : List (Addr × Obj)} {σ : St} {H : Hp} {s : Shared} (I : Inv X pins σ H s) : interactive X.env = false := by simp [interactive, I.ok.kind]
def tDrop (te : TE) : TS := fun D σ H => te σ H fun _ H1 => D.nx σ H1
theorem ps_expr (he : PE X e te) (hs : swapsWith e none pos.line X.env = pure false := by rfl) : PS X (.Expr e pos) (tDrop te) := by
  intro pins s σ H D I h
  exact wpAny_Expr_any (thn (he pins s σ H _ I h) fun v s1 ⟨x, H1, I1, r1, q1⟩ => ⟨σ, H1, I1, q1⟩) I.quiet hs
def tRet (te : TE) : TS := fun D σ H => te σ H D.rt
theorem ps_ret (he : PE X e te) : PS X (.Return (some e) pos) (tRet te) := by
  intro pins s σ H D I h
  exact wpAny_Return_some (thn (he pins s σ H _ I h) fun v s1 ⟨x, H1, I1, r1, q1⟩ => ⟨x, σ, H1, I1, r1, q1⟩)
def tIfS (c : TT) (t u : TS) : TS := fun D σ H => c σ H fun b H1 => if b = true then t D σ H1 else u D σ H1
theorem ps_if {c : Expr} {a b : List Stmt} {tc : TT} (hc : PT X c tc) (ha : PSs X a t) (hb : PSs X b u) : PS X (.If c a b pos) (tIfS tc t u) := by
  intro pins s σ H D I h
  refine wpAny_If (thn (hc pins s σ H _ I h) fun d s1 ⟨H1, I1, q1⟩ => ?_)
  cases d with
  | true => exact ha pins s1 σ H1 D I1 q1
  | false => exact hb pins s1 σ H1 D I1 q1
end
abbrev TG := V → St → Hp → (St → Hp → Prop) → Prop
abbrev TGs := List V → St → Hp → (St → Hp → Prop) → Prop
def PG (X : Cx) (target : Expr) (t : TG) : Prop :=
  ∀ (pins : List (Addr × Obj)) (s : Shared) (σ : St) (H : Hp) (v : V) (u : Value) (Q : St → Hp → Prop), Inv X pins σ H s → RelV v u → t v σ H Q →
    wpAny (model X.prog X.w) X.A (assign target X.env u) (fun _ s' => ∃ σ' H', Inv X pins σ' H' s' ∧ Q σ' H') X.xe s
def PGs (X : Cx) (ts : List Expr) (t : TGs) : Prop :=
  ∀ (pins : List (Addr × Obj)) (s : Shared) (σ : St) (H : Hp) (vs : List V) (us : List Value) (Q : St → Hp → Prop), Inv X pins σ H s → Vals vs us → t vs σ H Q →
    wpAny (model X.prog X.w) X.A (assignInOrder ((assignEach ts X.env).map (·.2)) us) (fun _ s' => ∃ σ' H', Inv X pins σ' H' s' ∧ Q σ' H') X.xe s
abbrev TSet := V → V → V → Hp → (Hp → Prop) → Prop
def PSet (X : Cx) (t : TSet) : Prop :=
  ∀ (pins : List (Addr × Obj)) (s : Shared) (σ : St) (H : Hp) (o i v : V) (ov iv u : Value) (Q : Hp → Prop), Inv X pins σ H s → RelV o ov → RelV i iv → RelV v u → t o i v H Q →
    wpAny (model X.prog X.w) X.A (setItem ov iv u) (fun _ s' => ∃ H', Inv X pins σ H' s' ∧ Q H') X.xe s
section
variable {X : Cx} {pos : Pos}
def gName (i : Nat) : TG := fun v σ H Q => Q (σ.set i (some v)) H
theorem pg_name {i : Nat} {x : Str} (hN : X.N.Nodup) (hi : X.N[i]? = some x) (hx : Loc X.env.scope x) (hf : X.fn x = true ∨ X.env.scope.names.lookup x = some .local := by first | exact .inl rfl | exact .inr rfl | assumption) : PG X (.Name x pos) (gName i) := by
  intro pins s σ H v u Q I r h
  exact wpAny_assign_Name (store_ok I hN hi hx r (fun s' I' => ⟨_, H, I', h⟩) hf)
def gNil : TGs := fun vs σ H Q => vs = [] ∧ Q σ H
def gCons (t : TG) (u : TGs) : TGs := fun vs σ H Q => ∃ v r, vs = v :: r ∧ t v σ H fun σ' H' => u r σ' H' Q
theorem pgs_nil : PGs X [] gNil := by
  intro pins s σ H vs us Q I r h
  obtain ⟨e, h⟩ := h
  subst e
  cases r
  exact assignInOrder_nil ⟨σ, H, I, h⟩
theorem pgs_cons {e : Expr} {es : List Expr} {t : TG} {u : TGs} (h1 : PG X e t) (h2 : PGs X es u)
    (hs : (assignEach (e :: es) X.env).map (·.2) = assign e X.env :: (assignEach es X.env).map (·.2) := by rfl) : PGs X (e :: es) (gCons t u) := by
  intro pins s σ H vs us Q I r h
  obtain ⟨v, vr, e1, h⟩ := h
  subst e1
  cases r with
  | cons r rr =>
    rw [hs]
    refine assignInOrder_cons (thn (h1 pins s σ H _ _ _ I r h) fun _ s1 ⟨σ1, H1, I1, q1⟩ => ?_)
    exact h2 pins s1 σ1 H1 _ _ Q I1 rr q1
def gTup (K : PySem.W.Frag) (n : Nat) (t : TGs) : TG := fun v σ H Q => ∃ a xs, v = .ref a ∧ SqT K H a xs ∧ xs.length = n ∧ t xs σ H Q
theorem pg_tup {es : List Expr} {k : Nat} {t : TGs} {n : Nat} (hc : X.calm = true) (h : PGs X es t)
    (hn : (assignEach es X.env).length = n := by rfl) (hst : (assignEach es X.env).findIdx? (·.1) = none := by rfl) : PG X (.Tuple es k pos) (gTup X.K n t) := by
  intro pins s σ H v u Q I r hw
  obtain ⟨a, xs, e1, hq, hl, hw⟩ := hw
  subst e1
  cases r
  obtain ⟨its, rv, ht, hz⟩ := I.tuple hq
  refine assign_Tuple_tuple (I.ok.hd hc) ht (by simp [hn, ← hl, rv.length]) hst fun h' hx => ?_
  have I1 : Inv X pins σ H { s with heap := h' } := I.kept (t' := s.toks) fun b o e => hx b o (Nat.ne_of_lt (Heap.lt_size e)) e
  exact h pins _ σ H xs _ Q I1 (by simpa using rv) hw
def gSub (to ti : TE) (t : TSet) : TG := fun v σ H Q => to σ H fun o H1 => ti σ H1 fun i H2 => t o i v H2 fun H3 => Q σ H3
theorem pg_sub {o i : Expr} {to ti : TE} {t : TSet} (ho : PE X o to) (hi : PE X i ti) (hs : PSet X t)
    (ha : ∀ v, assign (.Subscript o i pos) X.env v = (do
      let ov ← holding [v] (eval o X.env)
      let iv ← holding [v, ov] (eval i X.env)
      standAt pos
      holding [v, ov, iv] (setItem ov iv v)
      release [v, ov, iv] []) := by intro _; rfl) : PG X (.Subscript o i pos) (gSub to ti t) := by
  intro pins s σ H v u Q I r h
  rw [ha]
  refine wpAny_bind (wpAny_holding (thn (ho pins s σ H _ I h) fun ov s1 ⟨x, H1, I1, r1, q1⟩ => ?_))
  refine wpAny_bind (wpAny_holding (thn (hi pins s1 σ H1 _ I1 q1) fun iv s2 ⟨y, H2, I2, r2, q2⟩ => ?_))
  refine wpAny_bind (wpAny_standAt (wpAny_bind (wpAny_holding (thn (hs pins s2 σ H2 x y v ov iv u _ I2 r1 r2 r q2) fun _ s3 ⟨H3, I3, q3⟩ => ?_))))
  exact wpAny_release ⟨σ, H3, I3, q3⟩
def tAsg (te : TE) (g : TG) : TS := fun D σ H => te σ H fun x H1 => g x σ H1 D.nx
theorem ps_asg {tg e : Expr} {te : TE} {g : TG} (he : PE X e te) (hg : PG X tg g) (hs : swapsWithSole [tg] e pos.line X.env = pure false := by rfl) (hw : swappedStores [tg] e X.env = pure none := by rfl)
    (h1 : (assignEach [tg] X.env).map (·.2) = [assign tg X.env] := by rfl) : PS X (.Assign [tg] e pos) (tAsg te g) := by
  intro pins s σ H D I h
  refine wpAny_Assign_stores (thn (he pins s σ H _ I h) fun v s1 ⟨x, H1, I1, r1, q1⟩ => ?_) hs hw
  rw [h1]
  exact thn (hg pins s1 σ H1 x v _ I1 r1 q1) fun _ s2 q => q
theorem ps_set {i : Nat} {x : Str} {e : Expr} {te : TE} {pos' : Pos} (hN : X.N.Nodup) (hi : X.N[i]? = some x) (hx : Loc X.env.scope x) (he : PE X e te) (hs : swapsWith e (some (.Name x pos')) pos.line X.env = pure false := by rfl) (hf : X.fn x = true ∨ X.env.scope.names.lookup x = some .local := by first | exact .inl rfl | exact .inr rfl | assumption) :
    PS X (.Assign [.Name x pos'] e pos) (tAsg te (gName i)) := by
  intro pins s σ H D I h
  refine wpAny_Assign_Name (thn (he pins s σ H _ I h) fun v s1 ⟨y, H1, I1, r1, q1⟩ => ?_) hs
  exact store_ok I1 hN hi hx r1 (fun s2 I2 => ⟨_, H1, I2, q1⟩) hf
end
section
variable {X : Cx} {pos : Pos}
end
structure It where
  go : Nat → Hp → Prop
  yld : Nat → Hp → V → Hp → Prop
  stop : Nat → Hp → Prop
def FpOk (X : Cx) (pins : List (Addr × Obj)) (H : Hp) (b : Addr) : Prop :=
  H b = none ∧ b ≠ X.env.locals ∧ b ∉ X.fs ∧ (b ∈ X.ex ∨ X.s₀.heap.objs.size ≤ b) ∧ (∀ x c, X.env.cells.lookup x = some c → c ≠ b) ∧ ∀ p ∈ X.pn ++ pins, p.1 ≠ b
theorem Inv.fpOk {X : Cx} {pins : List (Addr × Obj)} {σ : St} {H H' : Hp} {s : Shared} {b : Addr} (I : Inv X pins σ H s) (hb : s.heap.objs.size ≤ b) (hn : H' b = none) : FpOk X pins H' b := by
  refine ⟨hn, Nat.ne_of_gt (Nat.lt_of_lt_of_le I.lt hb), I.nofs hb, .inr (Nat.le_trans I.sz hb), fun x c e z => ?_, fun p hp z => ?_⟩
  · obtain ⟨v, q⟩ := I.cell x c e
    exact absurd (Nat.lt_of_lt_of_le q.lt (by rw [z]; exact hb)) (Nat.lt_irrefl _)
  · exact absurd (Nat.lt_of_lt_of_le (Heap.lt_size (I.pin p hp).1) (by rw [z]; exact hb)) (Nat.lt_irrefl _)
structure Turn (P : Program) (w : World) (K : PySem.W.Frag) (tg : Expr) (J : It) (fp : List Addr) (it : Addr) (tn : Nat → Heap → Prop) : Prop where
  mem : it ∈ fp
  obj : ∀ i h, tn i h → ∀ b ∈ fp, ∃ o, h.get? b = some o ∧ ∀ v, o.data ≠ .cell v
  keep : ∀ i h h', tn i h → (∀ b ∈ fp, ∀ o, h.get? b = some o → h'.get? b = some o) → tn i h'
  item : ∀ (X : Cx), X.prog = P → X.w = w → X.K = K → X.calm = true → ∀ (i : Nat) (pins : List (Addr × Obj)) (s : Shared) (σ : St) (H : Hp) (E : Value → Shared → Prop), Inv X pins σ H s → (∀ b ∈ fp, FpOk X pins H b) → tn i s.heap → J.go i H →
    wpAny (model P w) X.A (pyNext (.ref it)) (fun r s1 => ∃ u, r = some u ∧
      wpAny (model P w) X.A (letOwnedTupleGo tg (.ref it) u) (fun _ s2 => ∃ x H', Inv X pins σ H' s2 ∧ RelV x u ∧ J.yld i H x H' ∧ tn (i + 1) s2.heap ∧ ∀ b ∈ fp, H' b = none) E s1) E s
  done : ∀ (X : Cx), X.prog = P → X.w = w → X.K = K → X.calm = true → ∀ (i : Nat) (pins : List (Addr × Obj)) (s : Shared) (σ : St) (H : Hp) (E : Value → Shared → Prop), Inv X pins σ H s → (∀ b ∈ fp, FpOk X pins H b) → tn i s.heap → J.stop i H →
    wpAny (model P w) X.A (pyNext (.ref it)) (fun r s1 => r = none ∧ Inv X pins σ H s1) E s
  self : ∀ (A : Around) (i : Nat) (s : Shared) (Q : Value → Shared → Prop) (E : Value → Shared → Prop), tn i s.heap → Q (.ref it) s → wpAny (model P w) A (pyIter (.ref it)) Q E s
abbrev TI := St → Hp → (It → Hp → Prop) → Prop
def PIE (X : Cx) (pins : List (Addr × Obj)) (σ : St) (tg : Expr) (R : It → Hp → Prop) (itv : Value) (s2 : Shared) : Prop :=
  ∃ (it : Addr) (fp : List Addr) (tn : Nat → Heap → Prop) (J : It) (H' : Hp), itv = .ref it ∧ Inv X pins σ H' s2 ∧ Turn X.prog X.w X.K tg J fp it tn ∧ tn 0 s2.heap ∧ (∀ b ∈ fp, FpOk X pins H' b) ∧ R J H'
def PI (X : Cx) (tg iter : Expr) (wi : TI) : Prop :=
  ∀ (pins : List (Addr × Obj)) (s : Shared) (σ : St) (H : Hp) (R : It → Hp → Prop), Inv X pins σ H s → wi σ H R →
    wpAny (model X.prog X.w) X.A (eval iter X.env) (fun v s1 => wpAny (model X.prog X.w) X.A (pyIter v) (PIE X pins σ tg R) X.xe s1) X.xe s
theorem go_of {M : Model} {A : Around} {E : Value → Shared → Prop} {s : Shared} {tg : Expr} {it : Addr} {u : Value} {o : Obj} {n : String} {vs : Array Value} {Q : Unit → Shared → Prop} (ho : s.heap.get? it = some o) (hc : o.cls = .type n) (hd : o.data = .fields vs)
    (hn : ["enumerate", "zip", "dict_itemiterator", "dict_reverseitemiterator", "odict_iterator", "itertools.zip_longest", "itertools.pairwise"].contains n = false) (hQ : Q () s) : wpAny M A (letOwnedTupleGo tg (.ref it) u) Q E s := by
  unfold letOwnedTupleGo
  cases tg <;> first
    | exact wpAny_pure hQ
    | (cases u <;> first
        | exact wpAny_pure hQ
        | (refine wpAny_bind (wpAny_load ho ?_)
           rw [hc, hd]
           show wpAny M A (if (["enumerate", "zip", "dict_itemiterator", "dict_reverseitemiterator", "odict_iterator", "itertools.zip_longest", "itertools.pairwise"].contains n && vs[0]? == some (rawInt _)) = true then _ else _) Q E s
           rw [if_neg (by intro h; rw [hn, Bool.false_and] at h; cases h)]
           exact wpAny_pure hQ))
def Itl (K : PySem.W.Frag) (a : Addr) : It :=
  ⟨fun i H => ∃ xs x, SqL K H a xs ∧ xs[i]? = some x, fun i H x H' => H' = H ∧ ∀ xs, SqL K H a xs → xs[i]? = some x, fun i H => ∃ xs, SqL K H a xs ∧ xs.length ≤ i⟩
def Itt (K : PySem.W.Frag) (a : Addr) : It :=
  ⟨fun i H => ∃ xs x, SqT K H a xs ∧ xs[i]? = some x, fun i H x H' => H' = H ∧ ∀ xs, SqT K H a xs → xs[i]? = some x, fun i H => ∃ xs, SqT K H a xs ∧ xs.length ≤ i⟩
def Itr (lo : Int) (n : Nat) : It := ⟨fun i _ => i < n, fun i H x H' => H' = H ∧ x = .int (lo + i), fun i _ => n ≤ i⟩
theorem turn_list {P : Program} {w : World} {K : PySem.W.Frag} {tg : Expr} (a it : Addr) : Turn P w K tg (Itl K a) [it] it (fun i h => h.IsListIter it a i) where
  mem := by simp
  obj := fun i h st b hb => by
    have e : b = it := by simpa using hb
    subst e
    obtain ⟨o, e, c, d⟩ := st
    exact ⟨o, e, fun v z => by rw [d] at z; cases z⟩
  keep := fun i h h' st k => st.at fun o e => k it (by simp) o e
  item := by
    intro X hP hw hK hc i pins s σ H E I hf st hg
    subst hP hw hK
    obtain ⟨xs, x, hq, hx⟩ := hg
    obtain ⟨its, rv, p, hz⟩ := I.list hq
    obtain ⟨u, hu, ru⟩ := rv.get hx
    obtain ⟨f0, f1, f2, f3, f4, f5⟩ := hf it (by simp)
    refine wpAny_pyNext_list_item st p.isList (x := u) (by simpa using hu) fun h' st' sb => ?_
    have I1 : Inv X pins σ H { s with heap := h' } := I.turned (t' := s.toks) (fun b o hb e => (sb.2 b hb).trans e) f0 f1 f3 f4 f5
    obtain ⟨o, e, c, d⟩ := id st'
    exact ⟨u, rfl, go_of (s := { s with heap := h' }) e c d (by decide) ⟨x, H, I1, ru, ⟨rfl, fun ys hy => by rw [I.list_inj hy hq]; exact hx⟩, st', fun b hb => (hf b hb).1⟩⟩
  done := by
    intro X hP hw hK hc i pins s σ H E I hf st hg
    subst hP hw hK
    obtain ⟨xs, hq, hx⟩ := hg
    obtain ⟨its, rv, p, hz⟩ := I.list hq
    obtain ⟨f0, f1, f2, f3, f4, f5⟩ := hf it (by simp)
    have hl := rv.length
    exact wpAny_pyNext_list_end (I.ok.hd hc) st p.isList (by simp; omega) fun h' eb => ⟨rfl, I.turned (t' := s.toks) (fun b o hb e => eb b o hb e) f0 f1 f3 f4 f5⟩
  self := fun _ _ _ _ _ st h => wpAny_pyIter_listiter st h
theorem turn_tuple {P : Program} {w : World} {K : PySem.W.Frag} {tg : Expr} (a it : Addr) : Turn P w K tg (Itt K a) [it] it (fun i h => h.IsTupleIter it a i) where
  mem := by simp
  obj := fun i h st b hb => by
    have e : b = it := by simpa using hb
    subst e
    obtain ⟨o, e, c, d⟩ := st
    exact ⟨o, e, fun v z => by rw [d] at z; cases z⟩
  keep := fun i h h' st k => st.at fun o e => k it (by simp) o e
  item := by
    intro X hP hw hK hc i pins s σ H E I hf st hg
    subst hP hw hK
    obtain ⟨xs, x, hq, hx⟩ := hg
    obtain ⟨its, rv, p, hz⟩ := I.tuple hq
    obtain ⟨u, hu, ru⟩ := rv.get hx
    obtain ⟨f0, f1, f2, f3, f4, f5⟩ := hf it (by simp)
    refine wpAny_pyNext_tuple_item st (show s.heap.IsTuple a its.toArray from p) (x := u) (by simpa using hu) fun h' st' sb => ?_
    have I1 : Inv X pins σ H { s with heap := h' } := I.turned (t' := s.toks) (fun b o hb e => (sb.2 b hb).trans e) f0 f1 f3 f4 f5
    obtain ⟨o, e, c, d⟩ := id st'
    exact ⟨u, rfl, go_of (s := { s with heap := h' }) e c d (by decide) ⟨x, H, I1, ru, ⟨rfl, fun ys hy => by rw [I.tuple_inj hy hq]; exact hx⟩, st', fun b hb => (hf b hb).1⟩⟩
  done := by
    intro X hP hw hK hc i pins s σ H E I hf st hg
    subst hP hw hK
    obtain ⟨xs, hq, hx⟩ := hg
    obtain ⟨its, rv, p, hz⟩ := I.tuple hq
    obtain ⟨f0, f1, f2, f3, f4, f5⟩ := hf it (by simp)
    have hl := rv.length
    exact wpAny_pyNext_tuple_end (I.ok.hd hc) st (show s.heap.IsTuple a its.toArray from p) (by simp; omega) fun h' eb => ⟨rfl, I.turned (t' := s.toks) (fun b o hb e => eb b o hb e) f0 f1 f3 f4 f5⟩
  self := fun _ _ _ _ _ st h => wpAny_pyIter_tupleiter st h
theorem turn_range {P : Program} {w : World} {K : PySem.W.Frag} {tg : Expr} (it : Addr) (lo : Int) (n : Nat) : Turn P w K tg (Itr lo n) [it] it (fun i h => IsRangeIter h it (lo + (i : Nat) * 1) ((n : Int) - (i : Nat)) 1) where
  mem := by simp
  obj := fun i h st b hb => by
    have e : b = it := by simpa using hb
    subst e
    exact ⟨_, st, fun v z => by
      have z' : Data.fields _ = Data.cell v := z
      cases z'⟩
  keep := fun i h h' st k => k it (by simp) _ st
  item := by
    intro X hP hw hK hc i pins s σ H E I hf st hg
    subst hP hw hK
    obtain ⟨f0, f1, f2, f3, f4, f5⟩ := hf it (by simp)
    have W := Walks.range (prog := X.prog) (w := X.w) (I.ok.hd hc) it lo 1 n
    refine W.item i s _ _ hg st fun v h' tk hv st' kk => ?_
    obtain ⟨t, rfl⟩ := hv
    have I1 : Inv X pins σ H { s with heap := h', toks := tk } := I.turned (fun b o hb e => kk b o (by simpa using hb) e) f0 f1 f3 f4 f5
    refine ⟨_, rfl, go_of (s := { s with heap := h', toks := tk }) (n := "range_iterator") st' rfl rfl (by decide) ⟨.int (lo + i), H, I1, ⟨t, ?_⟩, ⟨rfl, rfl⟩, st', fun b hb => (hf b hb).1⟩⟩
    rw [Int.mul_one]
  done := by
    intro X hP hw hK hc i pins s σ H E I hf st hg
    subst hP hw hK
    obtain ⟨f0, f1, f2, f3, f4, f5⟩ := hf it (by simp)
    exact wpAny_pyNext_range_end (I.ok.hd hc) st (by have : n ≤ i := hg; omega) fun h' eb => ⟨rfl, I.turned (t' := s.toks) (fun b o hb e => eb b o hb e) f0 f1 f3 f4 f5⟩
  self := fun _ _ _ _ _ st h => wpAny_pyIter_rangeiter st h
end L2

namespace L2
open PySem PySem.Spec PyProof.Rows
section
variable {X : Cx} {tg : Expr}
def iList (K : PySem.W.Frag) (tl : TE) : TI := fun σ H R => tl σ H fun x H1 => ∃ a, x = .ref a ∧ (∃ xs, SqL K H1 a xs) ∧ R (Itl K a) H1
def iTup (K : PySem.W.Frag) (tl : TE) : TI := fun σ H R => tl σ H fun x H1 => ∃ a, x = .ref a ∧ (∃ xs, SqT K H1 a xs) ∧ R (Itt K a) H1
theorem pi_list {l : Expr} {tl : TE} (hl : PE X l tl) : PI X tg l (iList X.K tl) := by
  intro pins s σ H R I h
  refine thn (hl pins s σ H _ I h) fun v s1 ⟨x, H1, I1, r1, q1⟩ => ?_
  obtain ⟨a, e, ⟨xs, hq⟩, q⟩ := q1
  subst e
  cases r1
  obtain ⟨its, rv, p, hz⟩ := I1.list hq
  refine wpAny_pyIter_list p.isList ?_
  refine ⟨s1.heap.objs.size, [s1.heap.objs.size], _, _, H1, rfl, I1.kept (t' := s1.toks) fun b o e => Heap.get?_push_of_some _ e, turn_list a _, ⟨_, Heap.get?_push_size _ rfl, rfl, rfl⟩, fun b hb => ?_, q⟩
  have e : b = s1.heap.objs.size := by simpa using hb
  subst e
  exact I1.fpOk (Nat.le_refl _) (I1.hok.fresh (Nat.le_refl _))
theorem pi_tup {l : Expr} {tl : TE} (hl : PE X l tl) : PI X tg l (iTup X.K tl) := by
  intro pins s σ H R I h
  refine thn (hl pins s σ H _ I h) fun v s1 ⟨x, H1, I1, r1, q1⟩ => ?_
  obtain ⟨a, e, ⟨xs, hq⟩, q⟩ := q1
  subst e
  cases r1
  obtain ⟨its, rv, p, hz⟩ := I1.tuple hq
  refine wpAny_pyIter_tuple (show s1.heap.IsTuple a its.toArray from p) ?_
  refine ⟨s1.heap.objs.size, [s1.heap.objs.size], _, _, H1, rfl, I1.kept (t' := s1.toks) fun b o e => Heap.get?_push_of_some _ e, turn_tuple a _, ⟨_, Heap.get?_push_size _ rfl, rfl, rfl⟩, fun b hb => ?_, q⟩
  have e : b = s1.heap.objs.size := by simpa using hb
  subst e
  exact I1.fpOk (Nat.le_refl _) (I1.hok.fresh (Nat.le_refl _))
theorem range_it {pins : List (Addr × Obj)} {σ : St} {H : Hp} {s : Shared} {R : It → Hp → Prop} {E : Value → Shared → Prop} {lo hi : Int} {t u v : Tok} {tk : Nat} (I : Inv X pins σ H s) (h1 : -(2 ^ 62) ≤ lo) (h2 : lo < 2 ^ 62) (h3 : -(2 ^ 62) ≤ hi) (h4 : hi < 2 ^ 62)
    (q : R (Itr lo (hi - lo).toNat) H) : wpAny (model X.prog X.w) X.A (pyIter (.ref s.heap.objs.size)) (PIE X pins σ tg R) E { s with heap := s.heap.push { cls := .type "range", data := .fields #[.int lo t, .int hi u, .int 1 v] }, toks := tk } := by
  refine wpAny_pyIter_range (IsRange.new ..) (small_one h1 h2 h3 h4) ?_
  have I1 : Inv X pins σ H { s with heap := s.heap.push { cls := .type "range", data := .fields #[.int lo t, .int hi u, .int 1 v] }, toks := tk } := I.kept fun b o e => Heap.get?_push_of_some _ e
  refine ⟨(s.heap.push { cls := .type "range", data := .fields #[.int lo t, .int hi u, .int 1 v] }).objs.size, [(s.heap.push { cls := .type "range", data := .fields #[.int lo t, .int hi u, .int 1 v] }).objs.size], _, _, H, rfl,
    I1.kept (t' := tk) fun b o e => Heap.get?_push_of_some _ e, turn_range _ lo (hi - lo).toNat, ?_, fun b hb => ?_, q⟩
  · have e1 : lo + ((0 : Nat) : Int) * 1 = lo := by simp
    have e2 : (((hi - lo).toNat : Nat) : Int) - ((0 : Nat) : Int) = Builtin.Range.rangeSize lo hi 1 := by rw [rangeSize_one]; split <;> omega
    show IsRangeIter _ _ (lo + ((0 : Nat) : Int) * 1) ((((hi - lo).toNat : Nat) : Int) - ((0 : Nat) : Int)) 1
    rw [e1, e2]
    exact Heap.get?_push_size _ rfl
  · have e : b = (s.heap.push { cls := .type "range", data := .fields #[.int lo t, .int hi u, .int 1 v] }).objs.size := by simpa using hb
    subst e
    exact I1.fpOk (Nat.le_refl _) (I1.hok.fresh (Nat.le_refl _))
def iRng1 (ta : TA) : TI := fun σ H R => ta σ H fun vs H1 => ∃ j : Int, vs = [.int j] ∧ -(2 ^ 62) ≤ j ∧ j < 2 ^ 62 ∧ R (Itr 0 j.toNat) H1
theorem pi_range1 {a : Expr} {ta : TA} {p pos : Pos} (hg : Gl X "range") (hm : X.mg "range" = none) (ha : PA X [a] ta) (hs : starEach [a] X.env = [(false, eval a X.env)] := by rfl) : PI X tg (.Call (.Name "range" p) [a] [] pos) (iRng1 ta) := by
  intro pins s σ H R I h
  refine Call_ (ld_blt I hg hm boot_range (PyProof.Rows.callWith_type1 (thn (ha pos pins s σ H _ I h) fun us s1 ⟨vs, H1, I1, r1, q1⟩ => ?_) hs rfl))
  obtain ⟨j, e, q1, q2, q⟩ := q1
  subst e
  cases r1 with
  | cons r rr =>
    cases rr
    obtain ⟨t, rfl⟩ := r
    exact call_range_1 (range_it I1 (by omega) (by omega) q1 q2 (by simpa using q))
def tFor (wi : TI) (g : TG) (tb : TS) : TS := fun D σ H => wi σ H fun J H1 => ∃ W : Nat → Nat → St → Hp → Prop, (∃ m, W 0 m σ H1) ∧ ∀ i m σ H, W i m σ H →
  (J.stop i H ∧ D.nx σ H) ∨ (J.go i H ∧ ∃ N : St → Hp → Prop, (∀ σ' H', N σ' H' → ∃ m', m' < m ∧ W (i + 1) m' σ' H') ∧ ∀ x H', J.yld i H x H' → g x σ H' fun σ2 H2 => tb { D with nx := N, ct := N, bk := D.nx } σ2 H2)
def pinsAt (fp : List Addr) (h : Heap) : List (Addr × Obj) := fp.filterMap fun b => (h.get? b).map fun o => (b, o)
theorem mem_pinsAt {fp : List Addr} {h : Heap} {b : Addr} {o : Obj} (hb : b ∈ fp) (e : h.get? b = some o) : (b, o) ∈ pinsAt fp h := List.mem_filterMap.mpr ⟨b, hb, by rw [e]; rfl⟩
theorem of_pinsAt {fp : List Addr} {h : Heap} {p : Addr × Obj} (hp : p ∈ pinsAt fp h) : p.1 ∈ fp ∧ h.get? p.1 = some p.2 := by
  obtain ⟨b, hb, e⟩ := List.mem_filterMap.mp hp
  cases q : h.get? b with
  | none => rw [q] at e; cases e
  | some o =>
    rw [q] at e
    have e' : (b, o) = p := Option.some.inj e
    subst e'
    exact ⟨hb, q⟩
theorem Inv.pinned {pins : List (Addr × Obj)} {σ : St} {H : Hp} {s : Shared} {fp : List Addr} (I : Inv X pins σ H s) (hf : ∀ b ∈ fp, FpOk X pins H b) (ho : ∀ b ∈ fp, ∃ o, s.heap.get? b = some o ∧ ∀ v, o.data ≠ .cell v) : Inv X (pins ++ pinsAt fp s.heap) σ H s :=
  I.pins_of fun p hp => (List.mem_append.mp hp).elim (fun z => I.pin p (List.mem_append_right _ z)) fun z => by
    obtain ⟨hb, e⟩ := of_pinsAt z
    obtain ⟨f0, f1, f2, _⟩ := hf p.1 hb
    obtain ⟨o, e', d⟩ := ho p.1 hb
    rw [e] at e'; cases e'
    exact ⟨e, f0, f1, f2, d⟩
theorem Inv.unpinned {pins pl : List (Addr × Obj)} {σ : St} {H : Hp} {s : Shared} (I : Inv X (pins ++ pl) σ H s) : Inv X pins σ H s := I.pins_of fun p hp => I.pin p (List.mem_append_right _ (List.mem_append_left _ hp))
theorem ps_for {iter : Expr} {body : List Stmt} {wi : TI} {g : TG} {tb : TS} {pos : Pos} (hp : PassesOwn (model X.prog X.w) X.A X.env X.xe) (hc : X.calm = true) (hi : PI X tg iter wi) (hg : PG X tg g) (hb : PSs X body tb)
    (hs : ∀ x, foldedSetIterable iter X.env x = pure x := by intro _; rfl) : PS X (.For tg iter body [] pos) (tFor wi g tb) := by
  intro pins s σ H D I h
  refine wpAny_For (thn (hi pins s σ H _ I h) fun v s1 h1 => thn h1 fun itv s2 h2 => ?_) hs
  obtain ⟨it, fp, tn, J, H2, e, I2, T, st2, f2, W, ⟨m0, w0⟩, turn⟩ := h2
  subst e
  -- what stays true of the iterator's objects through the loop
  have stat : ∀ {H' : Hp}, (∀ b ∈ fp, H' b = none) → ∀ b ∈ fp, FpOk X pins H' b := fun hn b hb => ⟨hn b hb, (f2 b hb).2⟩
  refine codeAny_forLoop_any (fun n s' => ∃ i σ' H', Inv X pins σ' H' s' ∧ tn i s'.heap ∧ (∀ b ∈ fp, H' b = none) ∧ W i n σ' H') ?_ m0 ⟨0, σ, H2, I2, st2, fun b hb => (f2 b hb).1, w0⟩
  rintro n s3 ⟨i, σ3, H3, I3, st3, fr3, w3⟩
  rcases turn i n σ3 H3 w3 with ⟨stop, qn⟩ | ⟨go, N, hN, step⟩
  · refine wpAny_passesOwn hp (thn (T.done X rfl rfl rfl hc i pins s3 σ3 H3 X.xe I3 (stat fr3) st3 stop) fun r s4 ⟨hr, I4⟩ => ?_)
    subst hr
    exact wpAny_execs_nil ⟨σ3, H3, I4, qn⟩
  · refine wpAny_passesOwn hp (thn (T.item X rfl rfl rfl hc i pins s3 σ3 H3 X.xe I3 (stat fr3) st3 go) fun r s4 ⟨u, hr, h4⟩ => ?_)
    subst hr
    refine wpAny_passesOwn hp (thn h4 fun _ s5 ⟨x, H5, I5, r5, y5, st5, fr5⟩ => ?_)
    have I5' := I5.pinned (stat fr5) (T.obj _ _ st5)
    refine wpAny_passesOwn hp (thn (hg _ s5 σ3 H5 x u _ I5' r5 (step x H5 y5)) fun _ s6 ⟨σ6, H6, I6, q6⟩ => ?_)
    refine wpAny_passesOwn hp (thn (hb _ s6 σ6 H6 _ I6 q6) fun f s7 q7 => ?_)
    have again : ∀ {σ7 : St} {H7 : Hp}, Inv X (pins ++ pinsAt fp s5.heap) σ7 H7 s7 → N σ7 H7 → ∃ m, m < n ∧ ∃ i σ' H', Inv X pins σ' H' s7 ∧ tn i s7.heap ∧ (∀ b ∈ fp, H' b = none) ∧ W i m σ' H' := fun {σ7 H7} I7 n7 => by
      obtain ⟨m', hm, w7⟩ := hN σ7 H7 n7
      refine ⟨m', hm, i + 1, σ7, H7, I7.unpinned, T.keep _ _ _ st5 fun b hb o e => (I7.pin (b, o) (List.mem_append_right _ (List.mem_append_right _ (mem_pinsAt hb e)))).1, fun b hb => ?_, w7⟩
      obtain ⟨o, e, d⟩ := T.obj _ _ st5 b hb
      exact (I7.pin (b, o) (List.mem_append_right _ (List.mem_append_right _ (mem_pinsAt hb e)))).2.1
    cases f with
    | next => obtain ⟨σ7, H7, I7, n7⟩ := q7; exact again I7 n7
    | cont => obtain ⟨σ7, H7, I7, n7⟩ := q7; exact again I7 n7
    | brk => obtain ⟨σ7, H7, I7, q7⟩ := q7; exact ⟨σ7, H7, I7.unpinned, q7⟩
    | ret v => obtain ⟨x7, σ7, H7, I7, r7, q7⟩ := q7; exact ⟨x7, σ7, H7, I7.unpinned, r7, q7⟩
end
theorem for_list {K : PySem.W.Frag} {a : Addr} {xs : List V} {g : TG} {tb : TS} {D : Ends} {σ : St} {H : Hp} (Pv : Nat → St → Hp → Prop) (h0 : Pv 0 σ H) (hl : ∀ i σ H, i ≤ xs.length → Pv i σ H → SqL K H a xs)
    (hs : ∀ i x σ H, xs[i]? = some x → Pv i σ H → g x σ H fun σ2 H2 => tb { D with nx := Pv (i + 1), ct := Pv (i + 1), bk := D.nx } σ2 H2) (hd : ∀ σ H, Pv xs.length σ H → D.nx σ H) :
    ∃ W : Nat → Nat → St → Hp → Prop, (∃ m, W 0 m σ H) ∧ ∀ i m σ H, W i m σ H →
      ((Itl K a).stop i H ∧ D.nx σ H) ∨ ((Itl K a).go i H ∧ ∃ N : St → Hp → Prop, (∀ σ' H', N σ' H' → ∃ m', m' < m ∧ W (i + 1) m' σ' H') ∧ ∀ x H', (Itl K a).yld i H x H' → g x σ H' fun σ2 H2 => tb { D with nx := N, ct := N, bk := D.nx } σ2 H2) := by
  refine ⟨fun i m σ H => m = xs.length - i ∧ i ≤ xs.length ∧ Pv i σ H, ⟨xs.length, by simp, Nat.zero_le _, h0⟩, ?_⟩
  rintro i m σ H ⟨rfl, hi, p⟩
  have q := hl i σ H hi p
  by_cases hlt : i < xs.length
  · refine .inr ⟨⟨xs, xs[i], q, by simp [hlt]⟩, Pv (i + 1), fun σ' H' p' => ⟨xs.length - (i + 1), by omega, rfl, hlt, p'⟩, fun x H' y => ?_⟩
    obtain ⟨e, y⟩ := y
    subst e
    exact hs i x σ _ (y xs q) p
  · have e : i = xs.length := by omega
    subst e
    exact .inl ⟨⟨xs, q, Nat.le_refl _⟩, hd σ H p⟩
theorem for_tup {K : PySem.W.Frag} {a : Addr} {xs : List V} {g : TG} {tb : TS} {D : Ends} {σ : St} {H : Hp} (Pv : Nat → St → Hp → Prop) (h0 : Pv 0 σ H) (hl : ∀ i σ H, i ≤ xs.length → Pv i σ H → SqT K H a xs)
    (hs : ∀ i x σ H, xs[i]? = some x → Pv i σ H → g x σ H fun σ2 H2 => tb { D with nx := Pv (i + 1), ct := Pv (i + 1), bk := D.nx } σ2 H2) (hd : ∀ σ H, Pv xs.length σ H → D.nx σ H) :
    ∃ W : Nat → Nat → St → Hp → Prop, (∃ m, W 0 m σ H) ∧ ∀ i m σ H, W i m σ H →
      ((Itt K a).stop i H ∧ D.nx σ H) ∨ ((Itt K a).go i H ∧ ∃ N : St → Hp → Prop, (∀ σ' H', N σ' H' → ∃ m', m' < m ∧ W (i + 1) m' σ' H') ∧ ∀ x H', (Itt K a).yld i H x H' → g x σ H' fun σ2 H2 => tb { D with nx := N, ct := N, bk := D.nx } σ2 H2) := by
  refine ⟨fun i m σ H => m = xs.length - i ∧ i ≤ xs.length ∧ Pv i σ H, ⟨xs.length, by simp, Nat.zero_le _, h0⟩, ?_⟩
  rintro i m σ H ⟨rfl, hi, p⟩
  have q := hl i σ H hi p
  by_cases hlt : i < xs.length
  · refine .inr ⟨⟨xs, xs[i], q, by simp [hlt]⟩, Pv (i + 1), fun σ' H' p' => ⟨xs.length - (i + 1), by omega, rfl, hlt, p'⟩, fun x H' y => ?_⟩
    obtain ⟨e, y⟩ := y
    subst e
    exact hs i x σ _ (y xs q) p
  · have e : i = xs.length := by omega
    subst e
    exact .inl ⟨⟨xs, q, Nat.le_refl _⟩, hd σ H p⟩
theorem for_range {lo : Int} {n : Nat} {g : TG} {tb : TS} {D : Ends} {σ : St} {H : Hp} (Pv : Nat → St → Hp → Prop) (h0 : Pv 0 σ H)
    (hs : ∀ i σ H, i < n → Pv i σ H → g (.int (lo + i)) σ H fun σ2 H2 => tb { D with nx := Pv (i + 1), ct := Pv (i + 1), bk := D.nx } σ2 H2) (hd : ∀ σ H, Pv n σ H → D.nx σ H) :
    ∃ W : Nat → Nat → St → Hp → Prop, (∃ m, W 0 m σ H) ∧ ∀ i m σ H, W i m σ H →
      ((Itr lo n).stop i H ∧ D.nx σ H) ∨ ((Itr lo n).go i H ∧ ∃ N : St → Hp → Prop, (∀ σ' H', N σ' H' → ∃ m', m' < m ∧ W (i + 1) m' σ' H') ∧ ∀ x H', (Itr lo n).yld i H x H' → g x σ H' fun σ2 H2 => tb { D with nx := N, ct := N, bk := D.nx } σ2 H2) := by
  refine ⟨fun i m σ H => m = n - i ∧ i ≤ n ∧ Pv i σ H, ⟨n, by simp, Nat.zero_le _, h0⟩, ?_⟩
  rintro i m σ H ⟨rfl, hi, p⟩
  by_cases hlt : i < n
  · refine .inr ⟨hlt, Pv (i + 1), fun σ' H' p' => ⟨n - (i + 1), by omega, rfl, hlt, p'⟩, fun x H' y => ?_⟩
    obtain ⟨e, y⟩ := y
    subst e y
    exact hs i σ _ hlt p
  · have e : i = n := by omega
    subst e
    exact .inl ⟨Nat.le_refl _, hd σ H p⟩
end L2

namespace L2
open PySem PySem.Spec PyProof.Rows

abbrev R2 := V → V → Hp → VK → Prop
def OpR (X : Cx) (f : Value → Value → Sem Value) (r : R2) : Prop :=
  ∀ (pins : List (Addr × Obj)) (s : Shared) (σ : St) (H : Hp) (x y : V) (v u : Value) (Q : VK), Inv X pins σ H s → RelV x v → RelV y u → r x y H Q →
    wpAny (model X.prog X.w) X.A (f v u) (EP X pins σ Q) X.xe s
def UnR (X : Cx) (f : Value → Sem Value) (r : V → Hp → VK → Prop) : Prop :=
  ∀ (pins : List (Addr × Obj)) (s : Shared) (σ : St) (H : Hp) (x : V) (v : Value) (Q : VK), Inv X pins σ H s → RelV x v → r x H Q →
    wpAny (model X.prog X.w) X.A (f v) (EP X pins σ Q) X.xe s
def CallR (X : Cx) (f : Value) (r : List V → Hp → VK → Prop) : Prop :=
  ∀ (pins : List (Addr × Obj)) (s : Shared) (σ : St) (H : Hp) (xs : List V) (us : List Value) (Q : VK), Inv X pins σ H s → Vals xs us → r xs H Q →
    wpAny (model X.prog X.w) X.A (call f us) (EP X pins σ Q) X.xe s
def tOp (r : R2) (ta tb : TE) : TE := fun σ H Q => ta σ H fun x H1 => tb σ H1 fun y H2 => r x y H2 Q
def tUn (r : V → Hp → VK → Prop) (ta : TE) : TE := fun σ H Q => ta σ H fun x H1 => r x H1 Q
def rI (C : Int → Int → Prop) (g : Int → Int → V) : R2 := fun x y H Q => ∃ i j, x = .int i ∧ y = .int j ∧ C i j ∧ Q (g i j) H
def rI0 (g : Int → Int → V) : R2 := fun x y H Q => ∃ i j, x = .int i ∧ y = .int j ∧ Q (g i j) H
def rU (g : Int → V) : V → Hp → VK → Prop := fun x H Q => ∃ i, x = .int i ∧ Q (g i) H

section
variable {X : Cx} {a b c : Expr} {ta tb tc : TE} {pos : Pos}

theorem binT (ha : PE X a ta) (hb : PE X b tb) {pins : List (Addr × Obj)} {s : Shared} {σ : St} {H : Hp} {R : V → V → Hp → Prop} (I : Inv X pins σ H s)
    (h : ta σ H fun x H1 => tb σ H1 fun y H2 => R x y H2) {Q : Value → Shared → Prop} {f : Value → Value → Sem Value}
    (hf : ∀ v u s2 x y H2, Inv X pins σ H2 s2 → RelV x v → RelV y u → R x y H2 → wpAny (model X.prog X.w) X.A (f v u) Q X.xe s2) :
    wpAny (model X.prog X.w) X.A (eval a X.env) (fun v s₁ => wpAny (model X.prog X.w) X.A (eval b X.env) (fun u s₂ => wpAny (model X.prog X.w) X.A (f v u) Q X.xe s₂) X.xe s₁) X.xe s := by
  refine thn (ha pins s σ H _ I h) fun v s1 ⟨x, H1, I1, r1, q1⟩ => ?_
  refine thn (hb pins s1 σ H1 _ I1 q1) fun u s2 ⟨y, H2, I2, r2, q2⟩ => ?_
  exact hf v u s2 x y H2 I2 r1 r2 q2

theorem pe_op {op : Operator} {r : R2} (ho : OpR X (binaryOp op) r) (ha : PE X a ta) (hb : PE X b tb) : PE X (.BinOp a op b pos) (tOp r ta tb) := by
  intro pins s σ H Q I h
  exact wpAny_BinOp (binT ha hb I h fun v u s2 x y H2 I2 rx ry q => ho pins s2 σ H2 x y v u Q I2 rx ry q)
theorem pe_un {op : UnaryOp} {r : V → Hp → VK → Prop} (ho : UnR X (unaryOp op) r) (ha : PE X a ta) : PE X (.UnaryOp op a pos) (tUn r ta) := by
  intro pins s σ H Q I h
  exact UnaryOp_ (thn (ha pins s σ H _ I h) fun v s1 ⟨x, H1, I1, r1, q1⟩ => ho pins s1 σ H1 x v Q I1 r1 q1)
theorem opI {f : Value → Value → Sem Value} {C : Int → Int → Prop} {g : Int → Int → Int}
    (rule : ∀ (i j : Int) (t u : Tok) (s : Shared) (Q : Value → Shared → Prop) (E : Value → Shared → Prop), C i j → Q (.int (g i j) s.toks) { s with toks := s.toks + 1 } → wpAny (model X.prog X.w) X.A (f (.int i t) (.int j u)) Q E s) :
    OpR X f (rI C fun i j => .int (g i j)) := by
  intro pins s σ H x y v u Q I rx ry h
  obtain ⟨i, j, rfl, rfl, hc, q⟩ := h
  obtain ⟨t, rfl⟩ := rx
  obtain ⟨t', rfl⟩ := ry
  exact rule i j t t' s _ _ hc ⟨.int (g i j), H, I.tok _, ⟨_, rfl⟩, q⟩
theorem opI0 {f : Value → Value → Sem Value} {g : Int → Int → Int}
    (rule : ∀ (i j : Int) (t u : Tok) (s : Shared) (Q : Value → Shared → Prop) (E : Value → Shared → Prop), Q (.int (g i j) s.toks) { s with toks := s.toks + 1 } → wpAny (model X.prog X.w) X.A (f (.int i t) (.int j u)) Q E s) :
    OpR X f (rI0 fun i j => .int (g i j)) := by
  intro pins s σ H x y v u Q I rx ry h
  obtain ⟨i, j, rfl, rfl, q⟩ := h
  obtain ⟨t, rfl⟩ := rx
  obtain ⟨t', rfl⟩ := ry
  exact rule i j t t' s _ _ ⟨.int (g i j), H, I.tok _, ⟨_, rfl⟩, q⟩
theorem opB0 {f : Value → Value → Sem Value} {g : Int → Int → Bool}
    (rule : ∀ (i j : Int) (t u : Tok) (s : Shared) (Q : Value → Shared → Prop) (E : Value → Shared → Prop), Q (.bool (g i j)) s → wpAny (model X.prog X.w) X.A (f (.int i t) (.int j u)) Q E s) :
    OpR X f (rI0 fun i j => .bl (g i j)) := by
  intro pins s σ H x y v u Q I rx ry h
  obtain ⟨i, j, rfl, rfl, q⟩ := h
  obtain ⟨t, rfl⟩ := rx
  obtain ⟨t', rfl⟩ := ry
  exact rule i j t t' s _ _ ⟨.bl (g i j), H, I, rfl, q⟩

def CDiv (i j : Int) : Prop := 0 < j ∧ j < 1073741824
def CPow (i j : Int) : Prop := 0 ≤ j ∧ j ≤ 1000000 ∧ i.natAbs < 2 ^ 64
def CMul (i j : Int) : Prop := (-(2 ^ 64) < i ∧ i < 2 ^ 64) ∨ (-(2 ^ 64) < j ∧ j < 2 ^ 64)
theorem CMul.ok {i j : Int} (h : CMul i j) : IntMulOk i j := by
  rcases h with ⟨h1, h2⟩ | ⟨h1, h2⟩
  · exact .of_left (intBits_le_64 h1 h2)
  · exact .of_right (intBits_le_64 h1 h2)
theorem op_add : OpR X (binaryOp .Add) (rI0 fun i j => .int (i + j)) := opI0 fun _ _ _ _ _ _ _ q => add_int q
theorem op_sub : OpR X (binaryOp .Sub) (rI0 fun i j => .int (i - j)) := opI0 fun _ _ _ _ _ _ _ q => sub_int q
theorem op_mul : OpR X (binaryOp .Mult) (rI CMul fun i j => .int (i * j)) := opI fun _ _ _ _ _ _ _ hc q => mul_int q hc.ok
theorem op_fdiv : OpR X (binaryOp .FloorDiv) (rI CDiv fun i j => .int (i / j)) := opI fun i j _ _ _ _ _ hc q => by
  have h1 : (0 : Int) < j := hc.1
  have h2 : j < 1073741824 := hc.2
  exact floordiv_int (by omega) (by rw [Int.fdiv_eq_ediv_of_nonneg i (by omega)]; exact q) (.inl (PyProof.noPylong_small (by omega)))
theorem op_mod : OpR X (binaryOp .Mod) (rI (fun _ j => 0 < j) fun i j => .int (i % j)) := opI fun i j _ _ _ _ _ hc q => by
  have h1 : (0 : Int) < j := hc
  exact mod_int' (by omega) (by rw [Int.fmod_eq_emod_of_nonneg i (by omega)]; exact q)
theorem op_pow : OpR X (binaryOp .Pow) (rI CPow fun i j => .int (i ^ j.toNat)) := opI fun _ _ _ _ _ _ _ hc q => pow_int_small hc.1 hc.2.1 hc.2.2 q
theorem unI {f : Value → Sem Value} {g : Int → Int}
    (rule : ∀ (i : Int) (t : Tok) (s : Shared) (Q : Value → Shared → Prop) (E : Value → Shared → Prop), Q (.int (g i) s.toks) { s with toks := s.toks + 1 } → wpAny (model X.prog X.w) X.A (f (.int i t)) Q E s) :
    UnR X f (rU fun i => .int (g i)) := by
  intro pins s σ H x v Q I rx h
  obtain ⟨i, rfl, q⟩ := h
  obtain ⟨t, rfl⟩ := rx
  exact rule i t s _ _ ⟨.int (g i), H, I.tok _, ⟨_, rfl⟩, q⟩
theorem un_neg : UnR X (unaryOp .USub) (rU fun i => .int (-i)) := unI fun _ _ _ _ _ q => neg_int q
end
def scal : V → V → Bool
  | .non, .non => true | .non, .int _ => true | .int _, .non => true | .non, .bl _ => true | .bl _, .non => true | .non, .str _ => true | .str _, .non => true
  | .int _, .int _ => true | .bl _, .bl _ => true | .str _, .str _ => true | .byt _, .byt _ => true
  | .int _, .str _ => true | .str _, .int _ => true | .bl _, .str _ => true | .str _, .bl _ => true
  | _, _ => false
def rEq : R2 := fun x y H Q => scal x y = true ∧ Q (.bl (decide (x = y))) H
def rNe : R2 := fun x y H Q => scal x y = true ∧ Q (.bl (!decide (x = y))) H

theorem dec_int {i j : Int} : decide (V.int i = V.int j) = (i == j) := by
  rw [Bool.eq_iff_iff]
  simp
theorem dec_bl {i j : Bool} : decide (V.bl i = V.bl j) = (i == j) := by
  rw [Bool.eq_iff_iff]
  simp
theorem dec_str {i j : Str} : decide (V.str i = V.str j) = (i == j) := by
  rw [Bool.eq_iff_iff]
  simp
theorem dec_byt {i j : Array UInt8} : decide (V.byt i = V.byt j) = (i.toList == j.toList) := by
  rw [Bool.eq_iff_iff]
  cases i
  cases j
  simp

section
variable {X : Cx} {a b c : Expr} {ta tb tc : TE} {pos : Pos}
theorem fin_bl {pins : List (Addr × Obj)} {σ : St} {H : Hp} {s : Shared} {Q : VK} {k k' : Bool} (I : Inv X pins σ H s) (q : Q (.bl k) H) (e : k = k') : EP X pins σ Q (.bool k') s := by
  subst e
  exact ⟨.bl k, H, I, rfl, q⟩
theorem op_eq : OpR X (compareOp .Eq) rEq := by
  intro pins s σ H x y v u Q I rx ry h
  obtain ⟨hs, q⟩ := h
  cases x with
  | non =>
    cases rx
    cases y with
    | non => cases ry; exact PySem.EqNone.eq_none_none (fin_bl I q (by simp))
    | bl j => cases ry; exact PySem.EqNone.eq_none_bool (fin_bl I q (by simp))
    | int j => obtain ⟨t', rfl⟩ := ry; exact PySem.EqNone.eq_none_int (fin_bl I q (by simp))
    | str j => obtain ⟨t', rfl⟩ := ry; exact PySem.EqNone.eq_none_str (fin_bl I q (by simp))
    | _ => exact absurd (show false = true from hs) Bool.false_ne_true
  | bl i =>
    cases rx
    cases y with
    | non => cases ry; exact PySem.EqNone.eq_bool_none (fin_bl I q (by simp))
    | bl j => cases ry; exact eq_bool (fin_bl I q dec_bl)
    | str j => obtain ⟨t', rfl⟩ := ry; exact PySem.EqMixed.eq_bool_str (fin_bl I q (by simp))
    | _ => exact absurd (show false = true from hs) Bool.false_ne_true
  | int i =>
    obtain ⟨t, rfl⟩ := rx
    cases y with
    | non => cases ry; exact PySem.EqNone.eq_int_none (fin_bl I q (by simp))
    | int j => obtain ⟨t', rfl⟩ := ry; exact eq_int (fin_bl I q dec_int)
    | str j => obtain ⟨t', rfl⟩ := ry; exact PySem.EqMixed.eq_int_str (fin_bl I q (by simp))
    | _ => exact absurd (show false = true from hs) Bool.false_ne_true
  | str i =>
    obtain ⟨t, rfl⟩ := rx
    cases y with
    | non => cases ry; exact PySem.EqNone.eq_str_none (fin_bl I q (by simp))
    | bl j => cases ry; exact PySem.EqMixed.eq_str_bool (fin_bl I q (by simp))
    | int j => obtain ⟨t', rfl⟩ := ry; exact PySem.EqMixed.eq_str_int (fin_bl I q (by simp))
    | str j => obtain ⟨t', rfl⟩ := ry; exact eq_str (fin_bl I q dec_str)
    | _ => exact absurd (show false = true from hs) Bool.false_ne_true
  | byt i =>
    obtain ⟨t, rfl⟩ := rx
    cases y with
    | byt j => obtain ⟨t', rfl⟩ := ry; exact PySem.W.eq_bytes (fin_bl I q dec_byt)
    | _ => exact absurd (show false = true from hs) Bool.false_ne_true
  | _ => cases y <;> exact absurd (show false = true from hs) Bool.false_ne_true
theorem op_ne : OpR X (compareOp .NotEq) rNe := by
  intro pins s σ H x y v u Q I rx ry h
  obtain ⟨hs, q⟩ := h
  cases x with
  | non =>
    cases rx
    cases y with
    | non => cases ry; exact PySem.EqNone.ne_none_none (fin_bl I q (by simp))
    | bl j => cases ry; exact PySem.EqNone.ne_none_bool (fin_bl I q (by simp))
    | int j => obtain ⟨t', rfl⟩ := ry; exact PySem.EqNone.ne_none_int (fin_bl I q (by simp))
    | str j => obtain ⟨t', rfl⟩ := ry; exact PySem.EqNone.ne_none_str (fin_bl I q (by simp))
    | _ => exact absurd (show false = true from hs) Bool.false_ne_true
  | bl i =>
    cases rx
    cases y with
    | non => cases ry; exact PySem.EqNone.ne_bool_none (fin_bl I q (by simp))
    | bl j => cases ry; exact ne_bool (fin_bl I q (congrArg not dec_bl))
    | str j => obtain ⟨t', rfl⟩ := ry; exact PySem.EqMixed.ne_bool_str (fin_bl I q (by simp))
    | _ => exact absurd (show false = true from hs) Bool.false_ne_true
  | int i =>
    obtain ⟨t, rfl⟩ := rx
    cases y with
    | non => cases ry; exact PySem.EqNone.ne_int_none (fin_bl I q (by simp))
    | int j => obtain ⟨t', rfl⟩ := ry; exact ne_int (fin_bl I q (congrArg not dec_int))
    | str j => obtain ⟨t', rfl⟩ := ry; exact PySem.EqMixed.ne_int_str (fin_bl I q (by simp))
    | _ => exact absurd (show false = true from hs) Bool.false_ne_true
  | str i =>
    obtain ⟨t, rfl⟩ := rx
    cases y with
    | non => cases ry; exact PySem.EqNone.ne_str_none (fin_bl I q (by simp))
    | bl j => cases ry; exact PySem.EqMixed.ne_str_bool (fin_bl I q (by simp))
    | int j => obtain ⟨t', rfl⟩ := ry; exact PySem.EqMixed.ne_str_int (fin_bl I q (by simp))
    | str j => obtain ⟨t', rfl⟩ := ry; exact ne_str (fin_bl I q (congrArg not dec_str))
    | _ => exact absurd (show false = true from hs) Bool.false_ne_true
  | byt i =>
    obtain ⟨t, rfl⟩ := rx
    cases y with
    | byt j => obtain ⟨t', rfl⟩ := ry; exact PySem.W.ne_bytes (fin_bl I q (congrArg not dec_byt))
    | _ => exact absurd (show false = true from hs) Bool.false_ne_true
  | _ => cases y <;> exact absurd (show false = true from hs) Bool.false_ne_true

theorem op_lt : OpR X (compareOp .Lt) (rI0 fun i j => .bl (decide (i < j))) := opB0 fun _ _ _ _ _ _ _ q => lt_int q
theorem op_le : OpR X (compareOp .LtE) (rI0 fun i j => .bl (decide (i ≤ j))) := opB0 fun _ _ _ _ _ _ _ q => le_int q
theorem op_gt : OpR X (compareOp .Gt) (rI0 fun i j => .bl (decide (j < i))) := opB0 fun _ _ _ _ _ _ _ q => gt_int q
theorem op_ge : OpR X (compareOp .GtE) (rI0 fun i j => .bl (decide (j ≤ i))) := opB0 fun _ _ _ _ _ _ _ q => ge_int q
theorem op_in_str : OpR X (compareOp .In) (fun x y H Q => ∃ i j, x = .str i ∧ y = .str j ∧ Q (.bl (!(Builtin.Str.occurrences j i 0 j.length 1).isEmpty)) H) := by
  intro pins s σ H x y v u Q I rx ry h
  obtain ⟨i, j, rfl, rfl, q⟩ := h
  obtain ⟨t, rfl⟩ := rx
  obtain ⟨t', rfl⟩ := ry
  exact in_str (fin_bl I q rfl)
theorem op_isN : OpR X (compareOp .Is) (fun x y H Q => y = .non ∧ Q (.bl (decide (x = .non))) H) := by
  intro pins s σ H x y v u Q I rx ry h
  obtain ⟨rfl, q⟩ := h
  cases ry
  refine is_none_gen (fin_bl I q ?_)
  cases x <;> first
    | (cases rx; rfl)
    | (obtain ⟨t, rfl⟩ := rx; rfl)
theorem op_notN : OpR X (compareOp .IsNot) (fun x y H Q => y = .non ∧ Q (.bl (!decide (x = .non))) H) := by
  intro pins s σ H x y v u Q I rx ry h
  obtain ⟨rfl, q⟩ := h
  cases ry
  refine isnot_none_gen (fin_bl I q ?_)
  cases x <;> first
    | (cases rx; rfl)
    | (obtain ⟨t, rfl⟩ := rx; rfl)

theorem OpR.or {f : Value → Value → Sem Value} {r r' : R2} (h : OpR X f r) (h' : OpR X f r') : OpR X f (fun x y H Q => r x y H Q ∨ r' x y H Q) := by
  intro pins s σ H x y v u Q I rx ry q
  rcases q with q | q
  · exact h pins s σ H x y v u Q I rx ry q
  · exact h' pins s σ H x y v u Q I rx ry q

theorem nomark (b : Expr) {op : CmpOp} (h : op ≠ .In := by decide) (h2 : op ≠ .NotIn := by decide) : behindInMarks op b = false := by
  have e1 : (op == CmpOp.In) = false := by cases op <;> first | rfl | exact absurd rfl h
  have e2 : (op == CmpOp.NotIn) = false := by cases op <;> first | rfl | exact absurd rfl h2
  cases b <;> simp [behindInMarks, e1, e2]
theorem pe_cmpR {op : CmpOp} {r : R2} (ho : OpR X (compareOp op) r) (ha : PE X a ta) (hb : PE X b tb) (hm : behindInMarks op b = false) : PE X (.Compare a [op] [b] pos) (tOp r ta tb) := by
  intro pins s σ H Q I h
  exact wpAny_Compare1 (binT ha hb I h fun v u s2 x y H2 I2 rx ry q => ho pins s2 σ H2 x y v u Q I2 rx ry q) hm
def tTest (t : TE) : TT := fun σ H Q => t σ H fun x H' => ∃ k, x = .bl k ∧ Q k H'
theorem pt_cmpR {op : CmpOp} {r : R2} (ho : OpR X (compareOp op) r) (ha : PE X a ta) (hb : PE X b tb) (hm : behindInMarks op b = false) : PT X (.Compare a [op] [b] pos) (tTest (tOp r ta tb)) := by
  intro pins s σ H Q I h
  refine wpAny_isTrue_Compare1 (thn (ha pins s σ H _ I h) fun v s1 ⟨x, H1, I1, r1, q1⟩ => thn (hb pins s1 σ H1 _ I1 q1) fun u s2 ⟨y, H2, I2, r2, q2⟩ =>
    thn (ho pins s2 σ H2 x y v u _ I2 r1 r2 q2) fun c s3 ⟨z, H3, I3, r3, k, e, q3⟩ => ?_) hm
  subst e
  cases r3
  exact wpAny_truthy_bool ⟨H3, I3, q3⟩
def tChain (r r' : R2) (ta tb tc : TE) : TE := fun σ H Q => ta σ H fun x H1 => tb σ H1 fun y H2 => r x y H2 fun z H3 => ∃ k, z = .bl k ∧
  (if k = true then tc σ H3 fun w' H4 => r' y w' H4 Q else Q (.bl false) H3)
theorem pt_chain {op op' : CmpOp} {r r' : R2} (ho : OpR X (compareOp op) r) (ho' : OpR X (compareOp op') r') (ha : PE X a ta) (hb : PE X b tb) (hc : PE X c tc)
    (hm : lastMarks [op, op'] [b, c] = false := by with_unfolding_all rfl) : PT X (.Compare a [op, op'] [b, c] pos) (tTest (tChain r r' ta tb tc)) := by
  intro pins s σ H Q I h
  refine isTrue_chain (thn (ha pins s σ H _ I h) fun v s1 ⟨x, H1, I1, r1, q1⟩ => test_link (thn (hb pins s1 σ H1 _ I1 q1) fun u s2 ⟨y, H2, I2, r2, q2⟩ =>
    thn (ho pins s2 σ H2 x y v u _ I2 r1 r2 q2) fun d s3 ⟨z, H3, I3, r3, k, e, q3⟩ => ?_)) hm
  subst e
  cases r3
  refine wpAny_truthy_bool ?_
  cases k with
  | false =>
    obtain ⟨k', e', q'⟩ := q3
    cases e'
    exact ite_ff ⟨H3, I3, q'⟩
  | true =>
    refine ite_tt (test_last (thn (hc pins s3 σ H3 _ I3 q3) fun w' s4 ⟨z', H4, I4, r4, q4⟩ => thn (ho' pins s4 σ H4 y z' u w' _ I4 r2 r4 q4) fun d' s5 ⟨z2, H5, I5, r5, k2, e2, q5⟩ => ?_))
    subst e2
    cases r5
    exact wpAny_truthy_bool ⟨H5, I5, q5⟩
theorem line63 : (sizeLine : Nat) < 2 ^ 63 := by rw [sizeLine_eq]; decide
theorem op_add_str : OpR X (binaryOp .Add) (fun x y H Q => ∃ i j, x = .str i ∧ y = .str j ∧ i.length + j.length ≤ sizeLine ∧ Q (.str (i ++ j)) H) := by
  intro pins s σ H x y v u Q I rx ry h
  obtain ⟨i, j, rfl, rfl, hz, q⟩ := h
  obtain ⟨t, rfl⟩ := rx
  obtain ⟨t', rfl⟩ := ry
  exact add_str (fun t' tk => ⟨.str (i ++ j), H, I.tok _, ⟨_, rfl⟩, q⟩) hz
theorem vals1 {x : V} {us : List Value} (r : Vals [x] us) : ∃ u, us = [u] ∧ RelV x u := by
  cases r with
  | cons r1 r2 => cases r2; exact ⟨_, rfl, r1⟩
theorem vals2 {x y : V} {us : List Value} (r : Vals [x, y] us) : ∃ u w', us = [u, w'] ∧ RelV x u ∧ RelV y w' := by
  cases r with
  | cons r1 r2 =>
    cases r2 with
    | cons r3 r4 => cases r4; exact ⟨_, _, rfl, r1, r3⟩
theorem call_int1 : CallR X (.type "int") (fun xs H Q => (∃ i, xs = [.int i] ∧ Q (.int i) H) ∨ ∃ k, xs = [.bl k] ∧ Q (.int (if k then 1 else 0)) H) := by
  intro pins s σ H xs us Q I r h
  rcases h with ⟨i, rfl, q⟩ | ⟨k, rfl, q⟩
  · obtain ⟨u, rfl, t, rfl⟩ := vals1 r
    exact call_int_int ⟨.int i, H, I, ⟨_, rfl⟩, q⟩
  · obtain ⟨u, rfl, r1⟩ := vals1 r
    cases r1
    exact call_int_bool ⟨.int (if k then 1 else 0), H, I.tok _, ⟨_, rfl⟩, q⟩
theorem call_str_int : CallR X (.type "str") (fun xs H Q => ∃ i, xs = [.int i] ∧ i.natAbs.log2 < 1920 ∧ Q (.str (toString i)) H) := by
  intro pins s σ H xs us Q I r h
  obtain ⟨i, rfl, hz, q⟩ := h
  obtain ⟨u, rfl, t, rfl⟩ := vals1 r
  exact PySem.P.str_of_int hz ⟨.str _, H, I.tok _, ⟨_, rfl⟩, q⟩
theorem call_ord : CallR X (.builtin "ord") (fun xs H Q => ∃ x, xs = [.str x] ∧ x.length = 1 ∧ Q (.int (x.cps.getD 0 0 : Nat)) H) := by
  intro pins s σ H xs us Q I r h
  obtain ⟨x, rfl, hz, q⟩ := h
  obtain ⟨u, rfl, t, rfl⟩ := vals1 r
  exact ord_of_one hz ⟨.int _, H, I.tok _, ⟨_, rfl⟩, q⟩
end
end L2

namespace L2
open PySem PySem.Spec PyProof.Rows
structure ObjM (h : Heap) (x dx C : Addr) (mA : Str → Option Value) : Prop where
  obj : h.get? x = some (PySem.W.instObj C dx)
  ns : h.Ns1 dx mA
  ne : dx ≠ x

theorem lookIn_ns {h : Heap} {dx : Addr} {mA : Str → Option Value} (n : h.Ns1 dx mA) : ∃ od, h.get? dx = some od ∧ ∀ name, PySem.W.lookIn name od = some (mA name) := by
  obtain ⟨o, es, ep, ho, hd, hk, _, hm⟩ := n
  refine ⟨o, ho, fun name => ?_⟩
  have e := hm name
  unfold nsFind findBy at e
  rw [← Array.find?_toList] at e
  unfold PySem.W.lookIn
  rw [hd]
  dsimp only
  split
  · rename_i y q
    rw [q] at e
    exact congrArg some e
  · rename_i q
    rw [q] at e
    have a : es.toList.any (·.refKey) = false := by
      rw [List.any_eq_false]
      intro y hy
      obtain ⟨z, t, hkey⟩ := hk y (Array.mem_toList_iff.mp hy)
      simp [DictEntry.refKey, hkey]
    have a' : ¬ es.toList.any (·.refKey) = true := by rw [a]; exact Bool.false_ne_true
    rw [if_neg a']
    exact congrArg some e

theorem ObjM.look {h : Heap} {x dx C : Addr} {mA : Str → Option Value} (I : ObjM h x dx C mA) : ∃ od, PySem.W.InstAt h x (PySem.W.instObj C dx) C (some od) ∧ ∀ name, PySem.W.lookIn name od = some (mA name) :=
  let ⟨od, ho, hl⟩ := lookIn_ns I.ns
  ⟨od, ⟨I.obj, rfl, rfl, ho⟩, hl⟩

section
variable {prog : Program} {w : World} {A : Around} {E : Value → Shared → Prop} {s : Shared} {K : PySem.W.Frag} {x dx C f : Addr} {mA : Str → Option Value} {name : Str} {v : Value}

theorem get_map {expr : Bool} {Q : Value → Shared → Prop} (X : K.In s.heap) (I : ObjM s.heap x dx C mA) (hg : PySem.W.plainGet K C name = true) (hh : PySem.W.hasDictIn K C = true)
    (ha : PySem.W.findIn K (.ref C) name = some none) (hv : mA name = some v) (hv' : PySem.W.handedIn v = true) (h : Q v { s with toks := s.toks + 1 }) :
    wpAny (model prog w) A (getAttr (.ref x) name expr) Q E s := by
  obtain ⟨od, J, hl⟩ := I.look
  exact PySem.W.get_value X J (PySem.W.plainGet_of hg).1 (PySem.W.findObj_own hh ha rfl (by rw [hl, hv])) hv' h

theorem get_meth {pl : Sem Bool} {Q : Value × List Value → Shared → Prop} (X : K.In s.heap) (I : ObjM s.heap x dx C mA) (hg : PySem.W.plainGet K C name = true)
    (hf : PySem.W.findIn K (.ref C) name = some (some (.ref f))) (ht : PySem.W.isFn K (.ref f) = true) (hv : mA name = none) (h : Q (.ref f, [.ref x]) s) :
    wpAny (model prog w) A (getMethod (.ref x) name pl) Q E s := by
  obtain ⟨od, J, hl⟩ := I.look
  exact PySem.W.method_fn X J (PySem.W.plainGet_of hg).1 (PySem.W.plainGet_of hg).2 hf (beq_iff_eq.mp ht) (by show (PySem.W.lookIn name od).map (·.isSome) = some false; rw [hl, hv]; rfl) h

theorem set_map {ns : List Str} {Q : Unit → Shared → Prop} (X : K.In s.heap) (I : ObjM s.heap x dx C mA)
    (hs : PySem.W.findIn K (.ref C) "__setattr__" = some (some (.builtin "object.__setattr__"))) (hp : PySem.W.plainOver K C = true) (ht : PySem.W.takerIn K C name = some none) (hh : PySem.W.hasDictIn K C = true)
    (hw : PySem.Within mA ns) (hsz : ns.length ≤ sizeLine)
    (h : ∀ h', ObjM h' x dx C (fun y => if y = name then some v else mA y) → Heap.SameBut dx s.heap h' → Q () { s with heap := h', toks := s.toks + 2 }) :
    wpAny (model prog w) A (setAttr (.ref x) name v) Q E s := by
  obtain ⟨od, J, hl⟩ := I.look
  refine PySem.W.set_plain X J hs (PySem.W.osa_open (s := { s with toks := s.toks + 1 }) (r := none) X J hp ht fun b => ?_)
  obtain ⟨cd, hc, hd'⟩ := PySem.W.any_some hh
  have hx : s.heap.get? x = some ⟨.ref C, some dx, .plain, #[]⟩ := I.obj
  refine wpAny_bind (wpAny_pure (wpAny_bind (wpAny_bind (wpAny_loadPart hx (wpAny_bind (PySem.W.Looks.here (s := { s with toks := s.toks + 1 }) (PySem.W.looks_clsIn X hc) ?_))))))
  rw [hd']
  refine wpAny_pure (a := some dx) (wpAny_bind (wpAny_pure (wpAny_bind ?_)))
  refine wpAny_nsSet1 (s := { s with toks := s.toks + 1 }) I.ns fun h' hn2 hs2 => ?_
  obtain ⟨oD, esD, epD, hoD, hdD, hcD⟩ := hn2.count (PySem.Within.cons name v hw)
  refine wpAny_bind (wpAny_lookBehind hoD (by rw [hdD]; exact pastItsLine_dict (Nat.le_trans hcD (by rw [List.length_cons]; omega))) ?_)
  exact wpAny_pure (h _ ⟨(hs2.2 _ (Ne.symm I.ne)).trans I.obj, hn2, I.ne⟩ hs2)
theorem make_map {R : Result → Shared → Prop} {vs : List Value} {kw : List (Str × Value)} (X : K.In s.heap) (hm : PySem.W.makesIn K C = true)
    (hi : PySem.W.findIn K (.ref C) "__init__" = some (some (.ref f))) (hf : PySem.W.typeIn K (.ref f) = some (.type "function"))
    (h : codeAny (model prog w) (A.under (.builtin "type.__call__" ⟨.ref C :: vs, kw⟩)) (.call (.ref f) ⟨.ref (s.heap.objs.size + 1) :: vs, kw⟩) (PySem.W.InitBack (s.heap.objs.size + 1) R)
      { s with heap := (s.heap.push PySem.W.emptyDict).push (PySem.W.instObj C s.heap.objs.size) }) :
    codeAny (model prog w) A (.call (.ref C) ⟨vs, kw⟩) R s := by
  obtain ⟨hh, g, d, t, os⟩ := s
  exact PySem.W.make_core (PySem.W.makes_of X hm) (PySem.W.looks_findIn X hi) (fun self => PySem.W.bind_fn X self hf) (.inl rfl) h
end
def putF (f : Str) (v : V) : List (Str × V) → List (Str × V)
  | [] => [(f, v)]
  | (g, x) :: r => if g = f then (g, v) :: r else (g, x) :: putF f v r
theorem lookup_putF (f g : Str) (v : V) : ∀ fs : List (Str × V), (putF f v fs).lookup g = if g = f then some v else fs.lookup g
  | [] => by
    show List.lookup g [(f, v)] = _
    by_cases h : g = f
    · have hb : (g == f) = true := beq_iff_eq.mpr h
      simp only [List.lookup, hb, if_pos h]
    · have hb : (g == f) = false := beq_eq_false_iff_ne.mpr h
      simp only [List.lookup, hb, if_neg h]
  | (k, x) :: r => by
    have ih := lookup_putF f g v r
    rw [show putF f v ((k, x) :: r) = (if k = f then (k, v) :: r else (k, x) :: putF f v r) from rfl]
    by_cases hk : k = f
    · rw [if_pos hk]
      by_cases h : g = k
      · have hb : (g == k) = true := beq_iff_eq.mpr h
        simp only [List.lookup, hb, if_pos (h.trans hk)]
      · have hb : (g == k) = false := beq_eq_false_iff_ne.mpr h
        simp only [List.lookup, hb, if_neg (fun e : g = f => h (e.trans hk.symm))]
    · rw [if_neg hk]
      by_cases h : g = k
      · have hb : (g == k) = true := beq_iff_eq.mpr h
        simp only [List.lookup, hb, if_neg (fun e : g = f => hk (h.symm.trans e))]
      · have hb : (g == k) = false := beq_eq_false_iff_ne.mpr h
        simp only [List.lookup, hb]
        exact ih
theorem keys_putF (f : Str) (v : V) : ∀ fs : List (Str × V), f ∈ (putF f v fs).map (·.1) ∧ ∀ g, g ∈ fs.map (·.1) → g ∈ (putF f v fs).map (·.1)
  | [] => ⟨by simp [putF], fun g h => by simp at h⟩
  | (k, x) :: r => by
    obtain ⟨i1, i2⟩ := keys_putF f v r
    rw [show putF f v ((k, x) :: r) = (if k = f then (k, v) :: r else (k, x) :: putF f v r) from rfl]
    by_cases hk : k = f
    · rw [if_pos hk]
      subst hk
      exact ⟨by simp, fun g h => by simpa using h⟩
    · rw [if_neg hk]
      refine ⟨?_, fun g h => ?_⟩
      · rw [List.map_cons]
        exact List.mem_cons_of_mem _ i1
      · rw [List.map_cons] at h ⊢
        rcases List.mem_cons.mp h with e | e
        · exact List.mem_cons.mpr (.inl e)
        · exact List.mem_cons_of_mem _ (i2 g e)
theorem length_putF (f : Str) (v : V) : ∀ fs : List (Str × V), (putF f v fs).length ≤ fs.length + 1
  | [] => by simp [putF]
  | (k, x) :: r => by
    have ih := length_putF f v r
    rw [show putF f v ((k, x) :: r) = (if k = f then (k, v) :: r else (k, x) :: putF f v r) from rfl]
    by_cases hk : k = f
    · rw [if_pos hk, List.length_cons, List.length_cons]; omega
    · rw [if_neg hk, List.length_cons, List.length_cons]; omega

theorem RelO.some_of {v : V} {o : Option Value} (r : RelO (some v) o) : ∃ u, o = some u ∧ RelV v u := by
  cases o with
  | none => exact (show False from r).elim
  | some u => exact ⟨u, rfl, r⟩
theorem RelO.none_of {o : Option Value} (r : RelO none o) : o = none := by
  cases o with
  | none => rfl
  | some u => exact (show False from r).elim
theorem handed_of {v : V} {u : Value} (r : RelV v u) : PySem.W.handedIn u = true := by
  cases v with
  | non => cases (show u = Value.none from r); rfl
  | bl b => cases (show u = Value.bool b from r); rfl
  | int i => obtain ⟨t, e⟩ := (show ∃ t, u = Value.int i t from r); cases e; rfl
  | str x => obtain ⟨t, e⟩ := (show ∃ t, u = Value.str x t from r); cases e; rfl
  | byt b => obtain ⟨t, e⟩ := (show ∃ t, u = Value.bytes b t from r); cases e; rfl
  | flt b => obtain ⟨t, e⟩ := (show ∃ t, u = Value.float b t from r); cases e; rfl
  | ref a => cases (show u = Value.ref a from r); rfl
  | ty n => cases (show u = Value.type n from r); rfl

section
variable {P : Program} {w : World} {H H' : Hp} {h h' : Heap} {a C dx : Addr} {fs fs' : List (Str × V)}
theorem ins_get (hok : HOk P w H h) (e : H a = some (.ins C dx fs)) : ∃ mA, ObjM h a dx C mA ∧ (∀ f, RelO (fs.lookup f) (mA f)) ∧ PySem.Within mA (fs.map (·.1)) ∧ fs.length ≤ 1000 ∧ H dx = some (.own a) := by
  obtain ⟨d, z, ne, ob, mA, n, r, q⟩ := (show ObjOk P w H h a (.ins C dx fs) from hok a _ e)
  exact ⟨mA, ⟨ob, n, ne⟩, r, q, z, d⟩
end
structure Cls (K : PySem.W.Frag) (C : Addr) : Prop where
  pg : PySem.W.plainGet K C Str.empty = true
  hd : PySem.W.hasDictIn K C = true
  po : PySem.W.plainOver K C = true
  sa : PySem.W.findIn K (.ref C) "__setattr__" = some (some (.builtin "object.__setattr__"))
theorem Cls.get {K : PySem.W.Frag} {C : Addr} (c : Cls K C) (f : Str) : PySem.W.plainGet K C f = true := c.pg
def NoAttr (K : PySem.W.Frag) (C : Addr) (f : Str) : Prop := PySem.W.findIn K (.ref C) f = some none
theorem NoAttr.taker {K : PySem.W.Frag} {C : Addr} {f : Str} (n : NoAttr K C f) : PySem.W.takerIn K C f = some none := by
  unfold PySem.W.takerIn
  rw [show PySem.W.findIn K (.ref C) f = some none from n]
  rfl
structure Con (K : PySem.W.Frag) (C : Addr) (f : Str) (v : V) (u : Value) : Prop where
  at_ : PySem.W.findIn K (.ref C) f = some (some u)
  rel : RelV v u
  get : PySem.W.specialIn K u "__get__" = some none
  cp : PySem.W.copiedNames.contains f = false
structure Meth (K : PySem.W.Frag) (C : Addr) (m : Str) (f : Addr) : Prop where
  at_ : PySem.W.findIn K (.ref C) m = some (some (.ref f))
  fn : PySem.W.isFn K (.ref f) = true
  kp : PySem.W.keepIn K (.ref f) = true

section
variable {X : Cx} {pins : List (Addr × Obj)} {σ : St} {H : Hp} {s : Shared} {a C dx : Addr} {fs : List (Str × V)} {f : Str} {v : V} {A : Around} {E : Value → Shared → Prop}

theorem getattr_ok {b : Bool} {Q : Value → Shared → Prop} (I : Inv X pins σ H s) (e : H a = some (.ins C dx fs)) (c : Cls X.K C) (n : NoAttr X.K C f) (l : fs.lookup f = some v)
    (h : ∀ u s', Inv X pins σ H s' → RelV v u → Q u s') : wpAny (model X.prog X.w) A (getAttr (.ref a) f b) Q E s := by
  obtain ⟨mA, O, r, _, _, _⟩ := ins_get I.hok e
  obtain ⟨u, hu, ru⟩ := RelO.some_of (v := v) (o := mA f) (by rw [← l]; exact r f)
  exact get_map I.kIn O (c.get f) c.hd n hu (handed_of ru) (h u _ (I.tok _) ru)

theorem getmeth_ok {m : Str} {g : Addr} {pl : Sem Bool} {Q : Value × List Value → Shared → Prop} (I : Inv X pins σ H s) (e : H a = some (.ins C dx fs)) (c : Cls X.K C) (k : Meth X.K C m g) (l : fs.lookup m = none)
    (h : Q (.ref g, [.ref a]) s) : wpAny (model X.prog X.w) A (getMethod (.ref a) m pl) Q E s := by
  obtain ⟨mA, O, r, _, _, _⟩ := ins_get I.hok e
  have hn : mA m = none := RelO.none_of (by rw [← l]; exact r m)
  exact get_meth I.kIn O (c.get m) k.at_ k.fn hn h

theorem setattr_ok {y : V} {u : Value} {Q : Unit → Shared → Prop} (I : Inv X pins σ H s) (e : H a = some (.ins C dx fs)) (c : Cls X.K C) (n : NoAttr X.K C f) (hl : fs.length < 1000) (ry : RelV y u)
    (h : ∀ s', Inv X pins σ (upd H a (.ins C dx (putF f y fs))) s' → Q () s') : wpAny (model X.prog X.w) A (setAttr (.ref a) f u) Q E s := by
  obtain ⟨mA, O, r, wi, _, ho⟩ := ins_get I.hok e
  have hz : (fs.map (·.1)).length ≤ sizeLine := by rw [List.length_map, sizeLine_eq]; omega
  refine set_map I.kIn O c.sa c.po n.taker c.hd wi hz fun h' O' sb => h _ ?_
  have hd : ∃ o, h'.get? dx = some o := let ⟨o, _, _, e', _⟩ := O'.ns; ⟨o, e'⟩
  refine I.write (x := a) (e := dx) (by rw [e]; exact True.intro) (.inr ho) (fun b q hb z => (sb.2 b hb).trans z) hd ?_
  refine ⟨by rw [upd_ne O.ne]; exact ho, ?_, O.ne, O'.obj, _, O'.ns, fun g => ?_, fun g hg => ?_⟩
  · have := length_putF f y fs; omega
  · show RelO ((putF f y fs).lookup g) (if g = f then some u else mA g)
    rw [lookup_putF]
    by_cases q : g = f
    · rw [if_pos q, if_pos q]; exact ry
    · rw [if_neg q, if_neg q]; exact r g
  · by_cases q : g = f
    · rw [q]; exact (keys_putF f y fs).1
    · refine (keys_putF f y fs).2 g (wi g fun z => hg ?_)
      show (if g = f then some u else mA g) = none
      rw [if_neg q]; exact z
theorem Inv.made (I : Inv X pins σ H s) : Inv X pins σ (upd (upd H s.heap.objs.size (.own (s.heap.objs.size + 1))) (s.heap.objs.size + 1) (.ins C s.heap.objs.size []))
    { s with heap := (s.heap.push PySem.W.emptyDict).push (PySem.W.instObj C s.heap.objs.size) } := by
  have e1 : (s.heap.push PySem.W.emptyDict).get? s.heap.objs.size = some PySem.W.emptyDict := Heap.get?_push_size s.heap rfl
  have e2 : ((s.heap.push PySem.W.emptyDict).push (PySem.W.instObj C s.heap.objs.size)).get? (s.heap.objs.size + 1) = some (PySem.W.instObj C s.heap.objs.size) := by
    have := Heap.get?_push_size (s.heap.push PySem.W.emptyDict) (o := PySem.W.instObj C s.heap.objs.size) rfl
    rwa [Heap.size_push] at this
  have e3 : (s.heap.push PySem.W.emptyDict).Ns s.heap.objs.size (fun _ => none) := ⟨PySem.W.emptyDict, #[], _, e1, rfl, (fun e he => absurd he (by simp)), fun _ => rfl⟩
  have I1 := I.laid (a := s.heap.objs.size) (o := .own (s.heap.objs.size + 1)) (h' := s.heap.push PySem.W.emptyDict) (t' := s.toks) (fun b u q => Heap.get?_push_of_some _ q) (Nat.le_refl _) ⟨_, e1⟩
  refine I1.laid (a := s.heap.objs.size + 1) (o := .ins C s.heap.objs.size []) (t' := s.toks) (fun b u q => Heap.get?_push_of_some _ q) (Nat.le_of_eq (Heap.size_push _ _)) ?_
  have ne : s.heap.objs.size ≠ s.heap.objs.size + 1 := Nat.ne_of_lt (Nat.lt_succ_self _)
  refine ⟨by rw [upd_ne ne, upd_same], Nat.zero_le _, ne, e2, fun _ => none, (Heap.Ns1.of_empty e3).at fun o q => Heap.get?_push_of_some _ q, fun _ => True.intro, fun y hy => absurd rfl hy⟩
theorem attr_of {prog : Program} {w : World} {env : Env} {e : Expr} {f : Str} {pos : Pos} {s : Shared} {Q : Value → Shared → Prop} (hb : attributeBase e f env (eval e env) = eval e env)
    (h : wpAny (model prog w) A (eval e env) (fun o s₁ => wpAny (model prog w) A (getAttr o f true) Q E s₁) E s) : wpAny (model prog w) A (eval (.Attribute e f pos) env) Q E s :=
  Attribute_any_ h (by rw [arm_eval_Attribute, hb])
end
def tFld (K : PySem.W.Frag) (ta : TE) (f : Str) : TE := fun σ H Q => ta σ H fun x H1 => ∃ a C dx fs v, x = .ref a ∧ H1 a = some (.ins C dx fs) ∧ Cls K C ∧ NoAttr K C f ∧ fs.lookup f = some v ∧ Q v H1
def sFld (K : PySem.W.Frag) (ta tv : TE) (f : Str) : TS := fun D σ H => tv σ H fun y H1 => ta σ H1 fun x H2 => ∃ a C dx fs, x = .ref a ∧ H2 a = some (.ins C dx fs) ∧ Cls K C ∧ NoAttr K C f ∧ fs.length < 1000 ∧
  D.nx σ (upd H2 a (.ins C dx (putF f y fs)))
section
variable {X : Cx} {o e value : Expr} {f : Str} {pos pos' tpos : Pos} {ta tv : TE}
theorem pe_fld (he : PE X e ta) (hb : attributeBase e f X.env (eval e X.env) = eval e X.env) : PE X (.Attribute e f pos) (tFld X.K ta f) := by
  intro pins s σ H Q I h
  refine attr_of hb (thn (he pins s σ H _ I h) fun u s1 ⟨x, H1, I1, rx, a, C, dx, fs, v, ex, ea, c, n, l, q⟩ => ?_)
  subst ex
  obtain rfl : u = Value.ref a := rx
  exact getattr_ok I1 ea c n l fun u' s2 I2 ru => ⟨v, H1, I2, ru, q⟩
theorem ps_fld (ha : PE X o ta) (hv : PE X value tv) (hs : swapsWith value (some (.Attribute o f pos')) pos.line X.env = pure false) : PS X (.Assign [.Attribute o f pos'] value pos) (sFld X.K ta tv f) := by
  intro pins s σ H D I h
  refine plainObj_wpAny_Assign_Attribute (thn (hv pins s σ H _ I h) fun u s1 ⟨y, H1, I1, ry, q⟩ => thn (ha pins s1 σ H1 _ I1 q) fun ov s2 ⟨x, H2, I2, rx, a, C, dx, fs, ex, ea, c, n, l, q2⟩ => ?_) hs
  subst ex
  obtain rfl : ov = Value.ref a := rx
  exact setattr_ok I2 ea c n l ry fun s3 I3 => ⟨σ, _, I3, q2⟩
end
section
variable {X : Cx} {pins : List (Addr × Obj)} {σ : St} {H : Hp} {s : Shared} {A : Around} {E : Value → Shared → Prop} {Q : Value → Shared → Prop} {c : Value} {b : Bool}
inductive TyOf (K : PySem.W.Frag) (H : Hp) : V → Value → Prop where
  | non : TyOf K H .non (.type "NoneType")
  | bl (x : Bool) : TyOf K H (.bl x) (.type "bool")
  | int (i : Int) : TyOf K H (.int i) (.type "int")
  | str (x : Str) : TyOf K H (.str x) (.type "str")
  | flt (x : UInt64) : TyOf K H (.flt x) (.type "float")
  | lst {a : Addr} {xs : List V} (e : H a = some (.lst xs)) : TyOf K H (.ref a) (.type "list")
  | frz {a : Addr} {o : Obj} {xs : List V} (e : H a = some (.frz o (.lst xs))) : TyOf K H (.ref a) (.type "list")
  | tup {a : Addr} {xs : List V} (e : H a = some (.tup xs)) : TyOf K H (.ref a) (.type "tuple")
  | dK {a : Addr} {kvs : List (Key × V)} (e : H a = some (.dK kvs)) : TyOf K H (.ref a) (.type "dict")
  | dT {a : Addr} {kvs : List (List Key × V)} (e : H a = some (.dT kvs)) : TyOf K H (.ref a) (.type "dict")
  | ins {a C dx : Addr} {fs : List (Str × V)} (e : H a = some (.ins C dx fs)) (cl : Cls K C) (ha : PySem.W.findIn K (.ref C) "__class__" = some (some (.builtin "object.__class__")))
      (hn : PySem.W.specialIn K (.builtin "object.__class__") "__get__" = some (some (.builtin "getset_descriptor.__get__"))) (htk : PySem.W.takesIn K (.builtin "object.__class__") = some true)
      (hm : PySem.W.mroIn K C (.type "object") = some true) : TyOf K H (.ref a) (.ref C)
theorem isinst_ok {x : V} {u t : Value} (I : Inv X pins σ H s) (rx : RelV x u) (ty : TyOf X.K H x t) (e : PySem.W.kitOne X.K t c = some b) (h : ∀ tk, Q (.bool b) { s with toks := tk }) :
    wpAny (model X.prog X.w) A (call (.builtin "isinstance") [u, c]) Q E s := by
  cases ty with
  | non => cases (show u = Value.none from rx); exact PySem.W.kia_one PySem.W.kitx_none I.kIn True.intro e (fun z => nomatch z) h
  | bl y => cases (show u = Value.bool y from rx); exact PySem.W.kia_one PySem.W.kitx_bool I.kIn True.intro e (fun z => nomatch z) h
  | int i => obtain ⟨t, q⟩ := (show ∃ t, u = Value.int i t from rx); cases q; exact PySem.W.kia_one PySem.W.kitx_int I.kIn True.intro e (fun z => nomatch z) h
  | str y => obtain ⟨t, q⟩ := (show ∃ t, u = Value.str y t from rx); cases q; exact PySem.W.kia_one PySem.W.kitx_str I.kIn True.intro e (fun z => nomatch z) h
  | flt y => obtain ⟨t, q⟩ := (show ∃ t, u = Value.float y t from rx); cases q; exact PySem.W.kia_one PySem.W.kitx_float I.kIn True.intro e (fun z => nomatch z) h
  | @lst a xs ea =>
    cases (show u = Value.ref a from rx)
    obtain ⟨_, _, n, _, h1⟩ := (show ObjOk X.prog X.w H s.heap a (.lst xs) from I.hok a _ ea)
    exact PySem.W.kia_one PySem.W.kitx_list I.kIn ⟨_, h1, rfl⟩ e (fun z => nomatch z) h
  | @frz a ob xs ea =>
    cases (show u = Value.ref a from rx)
    obtain ⟨_, _, _, n, _, h1⟩ := (show ObjOk X.prog X.w H s.heap a (.frz ob (.lst xs)) from I.hok a _ ea)
    exact PySem.W.kia_one PySem.W.kitx_list I.kIn ⟨_, h1, rfl⟩ e (fun z => nomatch z) h
  | @tup a xs ea =>
    cases (show u = Value.ref a from rx)
    obtain ⟨_, _, _, p⟩ := (show ObjOk X.prog X.w H s.heap a (.tup xs) from I.hok a _ ea)
    obtain ⟨o, h1, h2, _⟩ := p
    exact PySem.W.kia_one PySem.W.kitx_tuple I.kIn ⟨o, h1, h2⟩ e (fun z => nomatch z) h
  | @dK a kvs ea =>
    cases (show u = Value.ref a from rx)
    obtain ⟨_, _, vs, _, p⟩ := (show ObjOk X.prog X.w H s.heap a (.dK kvs) from I.hok a _ ea)
    obtain ⟨o, es, ep, h1, h2, _⟩ := p
    exact PySem.W.kia_one PySem.W.kitx_dict I.kIn ⟨o, h1, h2.1⟩ e (fun z => nomatch z) h
  | @dT a kvs ea =>
    cases (show u = Value.ref a from rx)
    obtain ⟨_, _, xs, _, o, es, ep, h1, h2, _⟩ := (show ObjOk X.prog X.w H s.heap a (.dT kvs) from I.hok a _ ea)
    exact PySem.W.kia_one PySem.W.kitx_dict I.kIn ⟨o, h1, h2.1⟩ e (fun z => nomatch z) h
  | @ins a C dx fs ea cl ha hn htk hm =>
    cases (show u = Value.ref a from rx)
    obtain ⟨mA, O, _⟩ := ins_get I.hok ea
    obtain ⟨od, J, _⟩ := O.look
    exact PySem.W.kia_one (PySem.W.kitx_own (cl.get _) cl.hd ha hn htk hm) I.kIn J e (fun z => nomatch z) h
end
end L2

namespace L2
open PySem PySem.Spec PyProof.Rows
structure Room (k : Nat) (A : Around) : Prop where
  hd : A.handled = none
  dp : A.depth + 3 * k + 5 < recursionLimit
  un : A.units + 16 * k + 200 < cLine
theorem Room.mono {j k : Nat} {A : Around} (r : Room k A) (h : j ≤ k) : Room j A := ⟨r.hd, by have := r.dp; omega, by have := r.un; omega⟩
theorem Room.deeper {k : Nat} {A : Around} (r : Room (k + 1) A) (env : Env) : Room k (A.deeper env) :=
  ⟨r.hd, by have := r.dp; show A.depth + 1 + 3 * k + 5 < _; omega, by have := r.un; show A.units + 3 + 16 * k + 200 < _; omega⟩
theorem Room.in1 {k : Nat} {A : Around} (r : Room (k + 1) A) : Room k A.in1 :=
  ⟨r.hd, by have := r.dp; show A.depth + 3 * k + 5 < _; omega, by have := r.un; show A.units + 1 + 16 * k + 200 < _; omega⟩
theorem make_depth {A : Around} {C : Addr} {us : List Value} {kw : List (Str × Value)} : (A.under (.builtin "type.__call__" ⟨.ref C :: us, kw⟩)).depth = A.depth + 1 := by
  first | rfl | simp [Around.under, Code.weight, Code.isCreation, Code.isGuard, Code.isCaller, Code.frames, Code.isFrame, guardIds]
theorem make_units {A : Around} {C : Addr} {us : List Value} {kw : List (Str × Value)} : (A.under (.builtin "type.__call__" ⟨.ref C :: us, kw⟩)).units = A.units + 1 := by
  first | rfl | simp [Around.under, Code.cUnits, Code.frames, Code.isFrame]
theorem Room.make {k : Nat} {A : Around} (r : Room (k + 1) A) (C : Addr) (us : List Value) (kw : List (Str × Value)) : Room k (A.under (.builtin "type.__call__" ⟨.ref C :: us, kw⟩)) :=
  ⟨r.hd, by have := r.dp; rw [make_depth]; omega, by have := r.un; rw [make_units]; omega⟩
theorem Room.depth {k : Nat} {A : Around} (r : Room k A) : A.depth < recursionLimit := by have := r.dp; omega
theorem Room.units {k : Nat} {A : Around} (r : Room k A) : A.units + 64 < cLine := by have := r.un; omega
theorem Room.units0 {k : Nat} {A : Around} (r : Room k A) : A.units < cLine := by have := r.un; omega
def tNil : TA := fun _ H Q => Q [] H
def tCons (ta : TE) (tr : TA) : TA := fun σ H Q => ta σ H fun x H1 => tr σ H1 fun xs H2 => Q (x :: xs) H2
section
variable {X : Cx} {e : Expr} {es : List Expr} {te : TE} {t : TA} {pos : Pos}
theorem pa_nil : PA X [] tNil := fun _ _ _ _ H Q I h => Calls.spliced_nil ⟨[], H, I, .nil, h⟩
theorem pa_cons (ha : PE X e te) (hr : PA X es t) (hs : starEach (e :: es) X.env = (false, eval e X.env) :: starEach es X.env := by rfl) : PA X (e :: es) (tCons te t) := by
  intro pos pins s σ H Q I h
  rw [hs]
  show wpAny _ _ (spliced ((false, eval e X.env) :: backTo pos (starEach es X.env))) _ _ s
  refine Calls.spliced_cons (thn (ha pins s σ H _ I h) fun u s1 ⟨x, H1, I1, r1, q1⟩ => ?_)
  exact thn (hr pos pins s1 σ H1 _ I1 q1) fun us s2 ⟨xs, H2, I2, r2, q2⟩ => ⟨x :: xs, H2, I2, .cons r1 r2, q2⟩
def tTup (t : TA) : TE := fun σ H Q => t σ H fun xs H1 => xs.length ≤ sizeLine ∧ ∀ p, H1 p = none → Q (.ref p) (upd H1 p (.tup xs))
def tLst (t : TA) : TE := fun σ H Q => t σ H fun xs H1 => xs.length ≤ sizeLine ∧ ∀ p, H1 p = none → Q (.ref p) (upd H1 p (.lst xs))
theorem pe_tup {x1} (h : PA X es t) : PE X (.Tuple es x1 pos) (tTup t) := by
  intro pins s σ H Q I hq
  refine wpAny_Tuple_spliced (thn (h pos pins s σ H _ I hq) fun us s1 ⟨xs, H1, I1, r, z, q⟩ => ⟨by rw [← r.length]; exact z, ?_⟩)
  have hf : H1 s1.heap.objs.size = none := I1.hok.fresh (Nat.le_refl _)
  refine ⟨.ref s1.heap.objs.size, upd H1 s1.heap.objs.size (.tup xs), I1.laid (t' := s1.toks) (fun b u e => Heap.get?_push_of_some _ e) (Nat.le_refl _) ?_, rfl, q _ hf⟩
  exact ⟨z, us, r, ⟨_, Heap.get?_push_size _ rfl, rfl, _, rfl⟩⟩
theorem pe_lst (h : PA X es t) : PE X (.List es pos) (tLst t) := by
  intro pins s σ H Q I hq
  refine wpAny_List_spliced (thn (h pos pins s σ H _ I hq) fun us s1 ⟨xs, H1, I1, r, z, q⟩ => ⟨by rw [← r.length]; exact z, ?_⟩)
  have hf : H1 s1.heap.objs.size = none := I1.hok.fresh (Nat.le_refl _)
  refine ⟨.ref s1.heap.objs.size, upd H1 s1.heap.objs.size (.lst xs), I1.laid (t' := s1.toks) (fun b u e => Heap.get?_push_of_some _ e) (Nat.le_refl _) ?_, rfl, q _ hf⟩
  exact ⟨z, us, 0, r, Heap.get?_push_size _ rfl⟩
end
abbrev Sp := List V → Hp → VK → XK → Prop
abbrev CXT := List Env → Hp → Shared → XK → Value → Shared → Prop
structure Env0 (P : Program) (w : World) (K : PySem.W.Frag) (mg : Str → Option Value) (base : Heap) (A : Around) (outer : List Env) (s : Shared) (H : Hp) : Prop where
  frames : A.frames = some outer
  mod : Mod K mg base
  bs : ∀ b o, base.get? b = some o → s.heap.get? b = some o ∧ H b = none
  bsz : base.objs.size ≤ s.heap.objs.size
  funs : s.heap.FunFrames base outer
  frf : ∀ b ∈ frs outer, H b = none
  hok : HOk P w H s.heap
  bare : AllBare s.gens
def CE (outer : List Env) (P : Program) (w : World) (H : Hp) (s : Shared) (Q : VK) (u : Value) (s' : Shared) : Prop :=
  ∃ v H', s'.os = s.os ∧ AllBare s'.gens ∧ Un (frs outer) [] H H' s.heap s'.heap ∧ HOk P w H' s'.heap ∧ RelV v u ∧ Q v H'
def CR (CX : CXT) (outer : List Env) (P : Program) (w : World) (H : Hp) (s : Shared) (Q : VK) (E : XK) (r : Result) (s' : Shared) : Prop :=
  match r with
  | .ok (.ret u) => CE outer P w H s Q u s'
  | .ok _ => False
  | .error e => CX outer H s E e s'
structure FnOk (P : Program) (w : World) (K : PySem.W.Frag) (mg : Str → Option Value) (base : Heap) (CX : CXT) (k : Nat) (f : Addr) (fd : FuncData) (ps : List Str) (sp : Sp) : Prop where
  len : ∀ vs H Q E, sp vs H Q E → vs.length = ps.length
  run : ∀ (A : Around) (outer : List Env) (s : Shared) (H : Hp) (args : Args) (us : List Value) (vs : List V) (Q : VK) (E : XK), Room k A → Env0 P w K mg base A outer s H → BindsTo s fd args (ps.zip us) → Vals vs us → sp vs H Q E →
    codeAny (model P w) A (.call (.ref f) args) (CR CX outer P w H s Q E) s
theorem FnOk.mono {P : Program} {w : World} {K : PySem.W.Frag} {mg : Str → Option Value} {base : Heap} {CX : CXT} {j k : Nat} {f : Addr} {fd : FuncData} {ps : List Str} {sp : Sp} (F : FnOk P w K mg base CX j f fd ps sp) (h : j ≤ k) :
    FnOk P w K mg base CX k f fd ps sp := ⟨F.len, fun A outer s H args us vs Q E hr => F.run A outer s H args us vs Q E (hr.mono h)⟩
theorem FnOk.imp {P : Program} {w : World} {K : PySem.W.Frag} {mg : Str → Option Value} {base : Heap} {CX : CXT} {k : Nat} {f : Addr} {fd : FuncData} {ps : List Str} {sp sp' : Sp} (F : FnOk P w K mg base CX k f fd ps sp)
    (h : ∀ vs H Q E, sp' vs H Q E → sp vs H Q E) : FnOk P w K mg base CX k f fd ps sp' :=
  ⟨fun vs H Q E q => F.len vs H Q E (h _ _ _ _ q), fun A outer s H args us vs Q E hr he hb hv hs => F.run A outer s H args us vs Q E hr he hb hv (h _ _ _ _ hs)⟩

theorem Env0.make {P : Program} {w : World} {K : PySem.W.Frag} {mg : Str → Option Value} {base : Heap} {A : Around} {outer : List Env} {s : Shared} {H : Hp} (e : Env0 P w K mg base A outer s H) (C : Addr) (us : List Value) (kw : List (Str × Value)) :
    Env0 P w K mg base (A.under (.builtin "type.__call__" ⟨.ref C :: us, kw⟩)) outer s H := ⟨by first | exact e.frames | (simpa [Around.under, Code.envs, Code.isFrame, pushEnvs] using e.frames), e.mod, e.bs, e.bsz, e.funs, e.frf, e.hok, e.bare⟩
theorem Env0.in1 {P : Program} {w : World} {K : PySem.W.Frag} {mg : Str → Option Value} {base : Heap} {A : Around} {outer : List Env} {s : Shared} {H : Hp} (e : Env0 P w K mg base A outer s H) :
    Env0 P w K mg base A.in1 outer s H := ⟨e.frames, e.mod, e.bs, e.bsz, e.funs, e.frf, e.hok, e.bare⟩

section
variable {X : Cx} {pins : List (Addr × Obj)} {σ : St} {H : Hp} {s s' : Shared}
theorem Inv.env0 (I : Inv X pins σ H s) : Env0 X.prog X.w X.K X.mg X.base X.A X.stack s H :=
  ⟨I.ok.frames, I.ok.mod, I.bs, Nat.le_trans I.ok.bsz I.sz, I.stack, I.stkFree, I.hok, I.bare⟩
theorem Inv.after {Q : VK} {u : Value} (I : Inv X pins σ H s) (h : CE X.stack X.prog X.w H s Q u s') : EP X pins σ Q u s' := by
  obtain ⟨v, H', os, bare, un, hok, r, q⟩ := h
  obtain ⟨hh, g, d, t, os'⟩ := s'
  obtain rfl : os' = s.os := os
  exact ⟨v, H', I.call (h' := hh) (g' := g) (d' := d) (t' := t) (ch := []) un hok bare (fun b z => absurd z (by simp)), r, q⟩
end
def tCall (sp : Sp) (dvs : List V) (E : XK) (t : TA) : TE := fun σ H Q => t σ H fun vs H1 => sp (vs ++ dvs) H1 Q E
def tMeth (C : Addr) (m : Str) (sp : Sp) (dvs : List V) (E : XK) (ta : TE) (t : TA) : TE := fun σ H Q => ta σ H fun x H1 => ∃ a dx fs, x = .ref a ∧ H1 a = some (.ins C dx fs) ∧ fs.lookup m = none ∧
  t σ H1 fun vs H2 => sp (x :: (vs ++ dvs)) H2 Q E
def tMake (C : Addr) (sp : Sp) (dvs : List V) (E : XK) (t : TA) : TE := fun σ H Q => t σ H fun vs H1 => ∀ x dx, H1 x = none → H1 dx = none → dx ≠ x →
  sp (.ref x :: (vs ++ dvs)) (upd (upd H1 dx (.own x)) x (.ins C dx [])) (fun v H2 => v = .non ∧ Q (.ref x) H2) E
def Binds (K : PySem.W.Frag) (fd : FuncData) (ps : List Str) (ds : List Value) : Prop :=
  ∀ (s : Shared) (us : List Value), K.In s.heap → (us ++ ds).length = ps.length → BindsTo s fd ⟨us, []⟩ (ps.zip (us ++ ds))
theorem Binds.all {K : PySem.W.Frag} {fd : FuncData} {ps : List Str} (h : ∀ us : List Value, us.length = ps.length → bindArgs fd ⟨us, []⟩ = pure (ps.zip us)) : Binds K fd ps [] := fun s us _ hl => by
  rw [List.append_nil] at hl ⊢
  exact .of_eq (h us hl)
def Passes (CX : CXT) (X : Cx) (E : XK) : Prop := ∀ (pins : List (Addr × Obj)) (σ : St) (H : Hp) (s : Shared) (e : Value) (s' : Shared), Inv X pins σ H s → CX X.stack H s E e s' → X.xe e s'

section
variable {X : Cx} {CX : CXT} {k : Nat} {f C : Addr} {fd : FuncData} {ps : List Str} {sp : Sp} {dvs : List V} {ds : List Value} {E : XK} {x m : Str} {p pos apos : Pos} {e o : Expr} {es : List Expr} {ta : TE} {t : TA}
theorem run_fn {pins : List (Addr × Obj)} {σ : St} {H : Hp} {s : Shared} {Q : VK} {us : List Value} {vs : List V} (F : FnOk X.prog X.w X.K X.mg X.base CX k f fd ps sp) (hr : Room k X.A) (hb : Binds X.K fd ps ds) (hd : Vals dvs ds) (hx : Passes CX X E)
    (I : Inv X pins σ H s) (r : Vals vs us) (h : sp (vs ++ dvs) H Q E) : wpAny (model X.prog X.w) X.A (call (.ref f) us) (EP X pins σ Q) X.xe s := by
  have r2 : Vals (vs ++ dvs) (us ++ ds) := r.append hd
  have hl : (us ++ ds).length = ps.length := by rw [← r2.length]; exact F.len _ _ _ _ h
  refine wpAny_call (codeAny_mono (F.run X.A X.stack s H ⟨us, []⟩ (us ++ ds) (vs ++ dvs) Q E hr I.env0 (hb s us I.kIn hl) r2 h) fun r s' hq => ?_)
  cases r with
  | error e => exact hx pins σ H s e s' I hq
  | ok fl =>
    cases fl with
    | ret u => exact I.after hq
    | next => exact False.elim hq
    | brk => exact False.elim hq
    | cont => exact False.elim hq

theorem pe_call (F : FnOk X.prog X.w X.K X.mg X.base CX k f fd ps sp) (hr : Room k X.A) (hg : Gl X x) (hm : X.mg x = some (.ref f)) (hk : PySem.W.keepIn X.K (.ref f) = true) (hb : Binds X.K fd ps ds) (hd : Vals dvs ds) (hx : Passes CX X E)
    (ha : PA X (e :: es) t) (hdb : (x == ("__debug__" : Str)) = false := by decide) (he : starEach (e :: es) X.env = (false, eval e X.env) :: starEach es X.env := by rfl) (hpl : (backTo pos (starEach es X.env)).any (·.1) = false := by rfl) :
    PE X (.Call (.Name x p) (e :: es) [] pos) (tCall sp dvs E t) := by
  intro pins s σ H Q I h
  refine wpAny_Call_Name_kw (ld_glob I hg hm ?_ hdb)
  refine PySem.W.callWith_K (h₀ := X.base) I.ok.mod.kin hk (thn (ha pos pins s σ H _ I h) fun us s1 ⟨vs, H1, I1, r, q⟩ => ⟨I1.kIn, ?_⟩) he hpl
  exact run_fn F hr hb hd hx I1 r q
theorem pe_meth0 {pl : Sem Bool} (he : PE X o ta) (c : Cls X.K C) (hm : Meth X.K C m f) (F : FnOk X.prog X.w X.K X.mg X.base CX k f fd ps sp) (hr : Room k X.A) (hb : Binds X.K fd ps ds) (hd : Vals dvs ds) (hx : Passes CX X E)
    (ht : eval (.Call (.Attribute o m apos) [] [] pos) X.env = (do
      let ov ← eval o X.env
      standAt apos.atName
      let (f, first) ← holding [ov] (getMethod ov m pl)
      callWith pos f first (backTo pos (starEach [] X.env)) (backToKw pos (keywordEach [] X.env))) := by rfl) :
    PE X (.Call (.Attribute o m apos) [] [] pos) (tMeth C m sp dvs E ta tNil) := by
  intro pins s σ H Q I h
  refine PySem.W.methodCall_KW (pl := pl) (thn (he pins s σ H _ I h) fun u s1 ⟨x, H1, I1, rx, a, dx, fs, ex, ea, l, q⟩ => ?_) ht
  subst ex
  obtain rfl : u = Value.ref a := rx
  refine getmeth_ok I1 ea c hm l ?_
  exact PySem.W.callWith_K0 (first := [.ref a]) I1.kIn hm.kp (run_fn (us := [.ref a]) (vs := [.ref a]) F hr hb hd hx I1 (.cons rfl .nil) q)
structure Mk (K : PySem.W.Frag) (C f : Addr) : Prop where
  makes : PySem.W.makesIn K C = true
  init : PySem.W.findIn K (.ref C) "__init__" = some (some (.ref f))
  fn : PySem.W.isFn K (.ref f) = true
  kp : PySem.W.keepIn K (.ref C) = true

theorem run_make {pins : List (Addr × Obj)} {σ : St} {H : Hp} {s : Shared} {Q : VK} {us : List Value} {vs : List V} (M : Mk X.K C f) (F : FnOk X.prog X.w X.K X.mg X.base CX k f fd ps sp) (hr : Room (k + 1) X.A) (hb : Binds X.K fd ps ds) (hd : Vals dvs ds)
    (hx : Passes CX X E) (I : Inv X pins σ H s) (r : Vals vs us)
    (h : ∀ x dx, H x = none → H dx = none → dx ≠ x → sp (.ref x :: (vs ++ dvs)) (upd (upd H dx (.own x)) x (.ins C dx [])) (fun v H2 => v = .non ∧ Q (.ref x) H2) E) :
    wpAny (model X.prog X.w) X.A (call (.ref C) us) (EP X pins σ Q) X.xe s := by
  have hq := h (s.heap.objs.size + 1) s.heap.objs.size (I.hok.fresh (Nat.le_succ _)) (I.hok.fresh (Nat.le_refl _)) (Nat.ne_of_lt (Nat.lt_succ_self _))
  have I2 := Inv.made (C := C) I
  have r2 : Vals (V.ref (s.heap.objs.size + 1) :: (vs ++ dvs)) (Value.ref (s.heap.objs.size + 1) :: (us ++ ds)) := .cons rfl (r.append hd)
  have hl : (Value.ref (s.heap.objs.size + 1) :: us ++ ds).length = ps.length := by
    have e := r2.length
    rw [F.len _ _ _ _ hq] at e
    exact e.symm
  refine wpAny_call (make_map (f := f) I.kIn M.makes M.init (beq_iff_eq.mp M.fn) (codeAny_mono (F.run _ X.stack _ _ ⟨Value.ref (s.heap.objs.size + 1) :: us, []⟩ (Value.ref (s.heap.objs.size + 1) :: (us ++ ds)) _ _ E (hr.make C us [])
    (I2.env0.make C us []) (hb _ (Value.ref (s.heap.objs.size + 1) :: us) I2.kIn hl) r2 hq) fun r s' hq' => ?_))
  cases r with
  | error e => exact hx pins σ _ _ e s' I2 hq'
  | ok fl =>
    cases fl with
    | ret u =>
      obtain ⟨v, H', I3, rv, ev, q3⟩ := I2.after hq'
      subst ev
      exact ⟨rv, ⟨V.ref (s.heap.objs.size + 1), H', I3, rfl, q3⟩⟩
    | next => exact False.elim hq'
    | brk => exact False.elim hq'
    | cont => exact False.elim hq'
theorem pe_make (M : Mk X.K C f) (F : FnOk X.prog X.w X.K X.mg X.base CX k f fd ps sp) (hr : Room (k + 1) X.A) (hg : Gl X x) (hm : X.mg x = some (.ref C)) (hb : Binds X.K fd ps ds) (hd : Vals dvs ds) (hx : Passes CX X E)
    (ha : PA X (e :: es) t) (hdb : (x == ("__debug__" : Str)) = false := by decide) (he : starEach (e :: es) X.env = (false, eval e X.env) :: starEach es X.env := by rfl) (hpl : (backTo pos (starEach es X.env)).any (·.1) = false := by rfl) :
    PE X (.Call (.Name x p) (e :: es) [] pos) (tMake C sp dvs E t) := by
  intro pins s σ H Q I h
  refine wpAny_Call_Name_kw (ld_glob I hg hm ?_ hdb)
  refine PySem.W.callWith_K (h₀ := X.base) I.ok.mod.kin M.kp (thn (ha pos pins s σ H _ I h) fun us s1 ⟨vs, H1, I1, r, q⟩ => ⟨I1.kIn, ?_⟩) he hpl
  exact run_make M F hr hb hd hx I1 r q
end
section
variable {X : Cx} {CX : CXT} {k : Nat} {f C : Addr} {fd : FuncData} {ps ks : List Str} {sp : Sp} {E : XK} {x m : Str} {p pos apos kpos : Pos} {e o : Expr} {es : List Expr} {kws : List Keyword} {te ta : TE} {t tk : TA} {nm : Option Str}
structure KBinds (K : PySem.W.Frag) (fd : FuncData) (ps ks : List Str) (g : List Value → List Value → List Value) (gV : List V → List V → List V) : Prop where
  to : ∀ (s : Shared) (us ws : List Value), K.In s.heap → (g us ws).length = ps.length → BindsTo s fd ⟨us, ks.zip ws⟩ (ps.zip (g us ws))
  rel : ∀ {vs : List V} {us : List Value} {zs : List V} {ws : List Value}, Vals vs us → Vals zs ws → Vals (gV vs zs) (g us ws)
variable {g : List Value → List Value → List Value} {gV : List V → List V → List V}
end
structure FnScope (N P : List Str) (sc : Scope) : Prop where
  kind : sc.kind = .function
  co : sc.isCoroutine = false
  gen : sc.isGenerator = false
  nd : N.Nodup
  pre : N.take P.length = P
  par : ∀ x ∈ P, sc.names.lookup x = some .local ∨ sc.names.lookup x = some .cell
  nofree : ∀ y ∈ sc.names, y.2 ≠ .free

theorem bindL_out {kindOf : Str → Option NameKind} {x : Str} : ∀ {binds : List (Str × Value)} {m : Str → Option Value}, (∀ v, (x, v) ∉ binds) → bindL kindOf binds m x = m x
  | [], _, _ => rfl
  | (n, v) :: r, m, h => by
    unfold bindL
    rw [bindL_out fun w hw => h w (List.mem_cons_of_mem _ hw)]
    split
    · have : x ≠ n := by rintro rfl; exact h v List.mem_cons_self
      simp [this]
    · rfl
theorem bindC_out {kindOf : Str → Option NameKind} {x : Str} : ∀ {binds : List (Str × Value)} {m : Str → Option Value}, (∀ v, (x, v) ∉ binds) → bindC kindOf binds m x = m x
  | [], _, _ => rfl
  | (n, v) :: r, m, h => by
    unfold bindC
    rw [bindC_out fun w hw => h w (List.mem_cons_of_mem _ hw)]
    split
    · rfl
    · have : x ≠ n := by rintro rfl; exact h v List.mem_cons_self
      simp [this]
theorem bindL_get {kindOf : Str → Option NameKind} {x : Str} {v : Value} : ∀ {P : List Str} {vs : List Value} {i : Nat} {m : Str → Option Value}, P.Nodup → P[i]? = some x → vs[i]? = some v → kindOf x = some .local →
    bindL kindOf (P.zip vs) m x = some v
  | [], _, _, _, _, h, _, _ => by simp at h
  | _ :: _, [], _, _, _, _, h, _ => by simp at h
  | p :: P, w :: vs, 0, m, nd, h1, h2, hk => by
    simp at h1 h2; subst h1; subst h2
    show bindL kindOf ((p, w) :: P.zip vs) m p = _
    unfold bindL
    rw [bindL_out fun v hv => (List.nodup_cons.mp nd).1 (List.of_mem_zip hv).1, if_pos hk]
    simp
  | p :: P, w :: vs, i + 1, m, nd, h1, h2, hk => by
    show bindL kindOf ((p, w) :: P.zip vs) m x = _
    unfold bindL
    exact bindL_get (i := i) (List.nodup_cons.mp nd).2 (by simpa using h1) (by simpa using h2) hk
theorem bindC_get {kindOf : Str → Option NameKind} {x : Str} {v : Value} : ∀ {P : List Str} {vs : List Value} {i : Nat} {m : Str → Option Value}, P.Nodup → P[i]? = some x → vs[i]? = some v → kindOf x ≠ some .local →
    bindC kindOf (P.zip vs) m x = some v
  | [], _, _, _, _, h, _, _ => by simp at h
  | _ :: _, [], _, _, _, _, h, _ => by simp at h
  | p :: P, w :: vs, 0, m, nd, h1, h2, hk => by
    simp at h1 h2; subst h1; subst h2
    show bindC kindOf ((p, w) :: P.zip vs) m p = _
    unfold bindC
    rw [bindC_out fun v hv => (List.nodup_cons.mp nd).1 (List.of_mem_zip hv).1, if_neg hk]
    simp
  | p :: P, w :: vs, i + 1, m, nd, h1, h2, hk => by
    show bindC kindOf ((p, w) :: P.zip vs) m x = _
    unfold bindC
    exact bindC_get (i := i) (List.nodup_cons.mp nd).2 (by simpa using h1) (by simpa using h2) hk
def start (N : List Str) (vs : List V) : St := vs.map some ++ List.replicate (N.length - vs.length) none
def cxOf (CX : CXT) (P : Program) (w : World) (K : PySem.W.Frag) (mg : Str → Option Value) (base : Heap) (N : List Str) (qual : Str) (scope : Scope) (f : Addr) (cd : Value) (A : Around) (outer : List Env) (s : Shared) (H : Hp) (E : XK) : Cx where
  prog := P
  w := w
  K := K
  mg := mg
  base := base
  A := A.deeper (envOfC qual scope s.heap.objs.size f cd)
  N := N
  s₀ := s
  H₀ := H
  env := envOfC qual scope s.heap.objs.size f cd
  outer := outer
  stack := envOfC qual scope s.heap.objs.size f cd :: outer
  ex := []
  calm := true
  fn := fun _ => true
  pn := []
  xe := fun e s' => wpAny (model P w) (A.deeper (envOfC qual scope s.heap.objs.size f cd)) (leaving (envOfC qual scope s.heap.objs.size f cd) e) (fun _ s'' => CX outer H s E e s'') (fun e' s'' => CX outer H s E e' s'') s'

theorem cell_has {sc : Scope} {n : Nat} {x : Str} (h : sc.names.lookup x = some .cell) : ∃ c, (cellsFrom n sc.names []).lookup x = some c := by
  have q := PySem.W.cellsFrom_some sc.names n [] (.inl h)
  exact Option.isSome_iff_exists.mp q

theorem inv_start {CX : CXT} {P : Program} {w : World} {K : PySem.W.Frag} {mg : Str → Option Value} {base : Heap} {N ps : List Str} {qual : Str} {scope : Scope} {f : Addr} {cd : Value} {A : Around} {outer : List Env} {s s1 : Shared} {H : Hp} {E : XK} {us : List Value} {vs : List V}
    (S : FnScope N ps scope) (hd : A.handled = none) (e0 : Env0 P w K mg base A outer s H) (hl : vs.length = ps.length) (r : Vals vs us)
    (x : InCallC s s.heap.objs.size (bindL (envOfC qual scope s.heap.objs.size f cd).kindOf (ps.zip us) fun _ => none) (cellsFrom (s.heap.objs.size + 1) scope.names []) (bindC (envOfC qual scope s.heap.objs.size f cd).kindOf (ps.zip us) fun _ => none) s1) :
    Inv (cxOf CX P w K mg base N qual scope f cd A outer s H E) [] (start N vs) H s1 := by
  have hpl : ps.length ≤ N.length := by have := congrArg List.length S.pre; rw [List.length_take] at this; omega
  obtain ⟨h1, tk, rfl, hk⟩ := x.done
  have noA : ∀ b : Addr, b ∉ (cxOf CX P w K mg base N qual scope f cd A outer s H E).ex := fun b z => absurd (show b ∈ ([] : List Addr) from z) (by simp)
  refine ⟨⟨e0.mod, S.kind, rfl, rfl, Nat.le_refl _, fun y z c h1 h2 => ?_, fun y hy => ?_, fun y c _ h => ?_, fun _ => hd, Around.frames_deeper e0.frames, .inr ⟨rfl, rfl⟩, fun b z => absurd z (noA b), e0.bs, e0.bsz, fun b _ _ => noA b, fun b z => absurd z (noA b), e0.funs, e0.frf⟩,
    rfl, e0.bare, Un.kept hk, ⟨_, x.toInCall.ns, fun i y v h1 h2 h3 => ?_⟩, fun y c h => ⟨_, x.cell y c h⟩, e0.hok.fresh (Nat.le_refl _), fun y c h => ?_, fun p hp => absurd (show p ∈ ([] : List (Addr × Obj)) from hp) (by simp), e0.hok.kept hk, ?_⟩
  · exact name_of_addr x.apart (PySem.mem_of_lookup h1) (PySem.mem_of_lookup h2)
  · have hy : scope.names.lookup y = some .cell ∨ scope.names.lookup y = some .free := hy
    rcases hy with hy | hy
    · exact cell_has hy
    · exact absurd rfl (S.nofree _ (PySem.mem_of_lookup hy))
  · exact Nat.le_of_lt (x.above y c (PySem.mem_of_lookup h))
  · have hi : i < vs.length := by
      unfold start at h2
      by_cases hi : i < vs.length
      · exact hi
      · rw [List.getElem?_append_right (by simpa using hi)] at h2
        rw [List.getElem?_replicate] at h2
        split at h2 <;> cases h2
    have ha : vs[i]? = some v := by
      unfold start at h2
      rw [List.getElem?_append_left (by simpa using hi), List.getElem?_map] at h2
      cases e : vs[i]? with
      | none => rw [e] at h2; cases h2
      | some a => rw [e] at h2; cases h2; rfl
    obtain ⟨u, hu, rv⟩ := r.get ha
    have hp : ps[i]? = some y := by
      rw [← S.pre, List.getElem?_take_of_lt (by omega)]; exact h1
    have ndP : ps.Nodup := by rw [← S.pre]; exact S.nd.sublist (List.take_sublist _ _)
    refine ⟨u, rv, ?_⟩
    rcases S.par y (List.mem_of_getElem? hp) with k | k
    · exact .inl ⟨k, bindL_get ndP hp hu k⟩
    · obtain ⟨c, e⟩ := cell_has (n := s.heap.objs.size + 1) k
      refine .inr ⟨.inl k, c, e, ?_⟩
      have q := x.cell y c e
      rw [bindC_get ndP hp hu (by show scope.names.lookup y ≠ _; rw [k]; decide)] at q
      exact q
  · exact e0.hok.fresh (Nat.le_of_lt (x.above y c (PySem.mem_of_lookup h)))
  · unfold start
    show _ = N.length
    rw [List.length_append, List.length_map, List.length_replicate]
    omega
theorem fn_of {CX : CXT} {P : Program} {w : World} {K : PySem.W.Frag} {mg : Str → Option Value} {base : Heap} {k : Nat} {f : Addr} {name qual : Str} {params : Arguments} {body : List Stmt} {scope : Scope} {dV kV doc pm cdv ct oc : Value} {an od : Option Addr}
    {osl : Array (Option Value)} {N ps : List Str} {sp : Sp} (lk : K.lookup f = some ⟨oc, od, .func (PySem.W.fnOf name qual params body scope dV kV doc pm an cdv ct), osl⟩) (hcd : PySem.W.codeIn K cdv qual = true) (S : FnScope N ps scope)
    (len : ∀ vs H Q E, sp vs H Q E → vs.length = ps.length)
    (hbody : ∀ (A : Around) (outer : List Env) (s : Shared) (H : Hp) (vs : List V) (Q : VK) (E : XK), Room k (A.deeper (envOfC qual scope s.heap.objs.size f cdv)) → sp vs H Q E →
      ∃ t, PSs (cxOf CX P w K mg base N qual scope f cdv A outer s H E) body t ∧ t { nx := fun _ H' => Q .non H', rt := Q } (start N vs) H) :
    FnOk P w K mg base CX (k + 1) f (PySem.W.fnOf name qual params body scope dV kV doc pm an cdv ct) ps sp := by
  refine ⟨len, fun A outer s H args us vs Q E hr e0 hb r hsp => ?_⟩
  have hl := len _ _ _ _ hsp
  have KX : K.In s.heap := e0.mod.kin.keeps fun b o e => (e0.bs b o e).1
  have lim : s.heap.NoLimit := e0.mod.nolimit.keeps fun b o e => (e0.bs b o e).1
  have hkind : ∀ y ∈ ps.zip us, scope.names.lookup y.1 = some .local ∨ (scope.names.lookup y.1 = some .cell ∧ ((cellsFrom (s.heap.objs.size + 1) scope.names []).lookup y.1).isSome = true) := fun ⟨n, v⟩ hy => by
    rcases S.par n (List.of_mem_zip hy).1 with q | q
    · exact .inl q
    · exact .inr ⟨q, PySem.W.cellsFrom_some _ _ _ (.inl q)⟩
  refine codeAny_call_function hr.depth (KX _ _ lk) rfl S.co S.gen rfl (PySem.W.codeRec_of KX hcd) (hb _ _ _ _ ?_)
  refine wpAny_newFunctionEnv_cells S.kind hkind fun env he s1 x => ?_
  subst he
  refine ⟨lim.keeps x.toInCall.keep, codeAny_func ?_⟩
  obtain ⟨t, ht, hq⟩ := hbody A outer s H vs Q E (hr.deeper _) hsp
  have I : Inv (cxOf CX P w K mg base N qual scope f cdv A outer s H E) [] (start N vs) H s1 := inv_start S hr.hd e0 hl r x
  refine wpAny_mono (ht [] s1 (start N vs) H _ I hq) (fun fl s' hs => ?_) fun e s' hs => hs
  have fin : ∀ {σ' : St} {H' : Hp} {v : V} {u : Value}, Inv (cxOf CX P w K mg base N qual scope f cdv A outer s H E) [] σ' H' s' → RelV v u → Q v H' → CE outer P w H s Q u s' :=
    fun {σ' H' v u} J rv q => ⟨v, H', J.os, J.bare, J.base, J.hok, rv, q⟩
  cases fl with
  | ret u =>
    obtain ⟨v, σ', H', J, rv, q⟩ := hs
    exact fin J rv q
  | next =>
    obtain ⟨σ', H', J, q⟩ := hs
    exact fin (v := V.non) (u := Value.none) J rfl q
  | brk =>
    obtain ⟨_, _, _, q⟩ := hs
    exact False.elim q
  | cont =>
    obtain ⟨_, _, _, q⟩ := hs
    exact False.elim q
end L2

namespace L2
open PySem PySem.Spec PyProof.Rows
section
variable {X : Cx} {x : Str} {p pos : Pos} {e : Expr} {es : List Expr} {t : TA} {id T : String} {r : List V → Hp → VK → Prop}

def tCB (r : List V → Hp → VK → Prop) (t : TA) : TE := fun σ H Q => t σ H fun vs H1 => r vs H1 Q
theorem pe_callB (hc : CallR X (.builtin id) r) (hg : Gl X x) (hm : X.mg x = none) (hv : bootBuiltins x = some (.builtin id)) (ha : PA X (e :: es) t) (hn : x ≠ "__name__" := by decide) (hdb : (x == ("__debug__" : Str)) = false := by decide)
    (he : starEach (e :: es) X.env = (false, eval e X.env) :: starEach es X.env := by rfl) (hpl : (backTo pos (starEach es X.env)).any (·.1) = false := by rfl) : PE X (.Call (.Name x p) (e :: es) [] pos) (tCB r t) := by
  intro pins s σ H Q I h
  refine wpAny_Call_Name_kw (ld_blt I hg hm hv ?_ hn hdb)
  exact PyProof.Rows.callWith_builtin1 (thn (ha pos pins s σ H _ I h) fun us s1 ⟨vs, H1, I1, r1, q1⟩ => hc pins s1 σ H1 vs us Q I1 r1 q1) he hpl
theorem pe_callTy (hc : CallR X (.type T) r) (hg : Gl X x) (hm : X.mg x = none) (hv : bootBuiltins x = some (.type T)) (ha : PA X (e :: es) t) (hn : x ≠ "__name__" := by decide) (hdb : (x == ("__debug__" : Str)) = false := by decide)
    (he : starEach (e :: es) X.env = (false, eval e X.env) :: starEach es X.env := by rfl) (hpl : (backTo pos (starEach es X.env)).any (·.1) = false := by rfl) : PE X (.Call (.Name x p) (e :: es) [] pos) (tCB r t) := by
  intro pins s σ H Q I h
  refine wpAny_Call_Name_kw (ld_blt I hg hm hv ?_ hn hdb)
  exact PyProof.Rows.callWith_type1 (thn (ha pos pins s σ H _ I h) fun us s1 ⟨vs, H1, I1, r1, q1⟩ => hc pins s1 σ H1 vs us Q I1 r1 q1) he hpl
end
end L2

namespace HT
open PySem PyProof.Rows
section
open PySem.SeqAt
open PySem.AutoSeq1 (wpAny_loadPart')
open PySem.MeetsSeq PySem.MeetsSeq2 PySem.MeetsSeq3

end

section
variable {prog : Program} {w : World} {A : Around} {E : Value → Shared → Prop} {s : Shared}

theorem cat_tup {t b : Addr} {vs ws : List Value} {Q : Value → Shared → Prop} (ht : IsTup s.heap t vs.toArray) (hb : IsTup s.heap b ws.toArray) (hv : vs ≠ [])
    (h1 : ws = [] → Q (.ref t) s) (h2 : ws ≠ [] → Q (.ref s.heap.objs.size) { s with heap := s.heap.push { cls := .type "tuple", data := .seq (vs ++ ws).toArray } })
    (hsz : vs.length + ws.length ≤ sizeLine) : wpAny (model prog w) A (binaryOp .Add (.ref t) (.ref b)) Q E s := by
  obtain ⟨⟨cls, dd, data, sl⟩, ho, hc, n, hd⟩ := id ht
  obtain ⟨⟨cls2, dd2, data2, sl2⟩, ho2, hc2, n2, hd2⟩ := id hb
  simp only at hc hd hc2 hd2
  subst hc hd hc2 hd2
  have e : vs.toArray ++ ws.toArray = (vs ++ ws).toArray := by simp
  by_cases hw : ws = []
  · exact concat_meets ⟨_, ho, rfl⟩ ⟨_, ho2, rfl⟩ noFill_tuple_add seq_tuple_add PySem.F.slot_tuple_add PySem.F.entry_tuple_add (PySem.F.args_tuple_add_2 _ _)
      (tuple_addW1 t b vs.toArray ws.toArray n n2 dd dd2 sl sl2 (by simpa using hv) (by simp [hw])) ⟨ho, ho2, h1 hw⟩
  · refine concat_meets ⟨_, ho, rfl⟩ ⟨_, ho2, rfl⟩ noFill_tuple_add seq_tuple_add PySem.F.slot_tuple_add PySem.F.entry_tuple_add (PySem.F.args_tuple_add_2 _ _)
      (tuple_addW2 t b vs.toArray ws.toArray n n2 dd dd2 sl sl2 (by simpa using hv) (by simpa using hw) (by rw [List.size_toArray, List.size_toArray]; exact hsz)) ⟨ho, ho2, ?_⟩
    rw [e]
    exact h2 hw
def sIx (n d : Nat) : Option Int → Nat
  | none => d
  | some v => if v < 0 then (v + (n : Int)).toNat else min v.toNat n
theorem sIx_none (n d : Nat) : sIx n d none = d := rfl
theorem sIx_nat (n d k : Nat) : sIx n d (some (k : Int)) = min k n := by
  show (if (k : Int) < 0 then ((k : Int) + (n : Int)).toNat else min (k : Int).toNat n) = min k n
  rw [if_neg (by omega), Int.toNat_natCast]
theorem sIx_le (n d : Nat) (hd : d ≤ n) (o : Option Int) : sIx n d o ≤ n := by
  cases o with
  | none => exact hd
  | some v =>
    show (if v < 0 then (v + (n : Int)).toNat else min v.toNat n) ≤ n
    by_cases hv : v < 0
    · rw [if_pos hv]; omega
    · rw [if_neg hv]; exact Nat.min_le_right _ _
theorem clip_eq (v : Int) (n d : Nat) : (if v < 0 then max (v + (n : Int)) 0 else min v (n : Int)) = ((sIx n d (some v) : Nat) : Int) := by
  show (if v < 0 then max (v + (n : Int)) 0 else min v (n : Int)) = (((if v < 0 then (v + (n : Int)).toNat else min v.toNat n) : Nat) : Int)
  by_cases hv : v < 0
  · simp only [if_pos hv]; omega
  · simp only [if_neg hv]; omega
theorem adjust_gen (lo hi : Option Int) (n : Nat) : Builtin.Slice.sliceAdjust lo hi 1 (n : Int) = (((sIx n 0 lo : Nat) : Int), ((sIx n n hi : Nat) : Int)) := by
  have h1 : ¬ ((1 : Int) < 0) := by omega
  unfold Builtin.Slice.sliceAdjust
  simp only [h1, if_false]
  refine Prod.ext ?_ ?_
  · cases lo with
    | none => rfl
    | some v => exact clip_eq v n 0
  · cases hi with
    | none => rfl
    | some v => exact clip_eq v n n
theorem places_gen (i j : Nat) : Builtin.Slice.slicePlaces (i : Int) (j : Int) 1 = j - i := by
  unfold Builtin.Slice.slicePlaces
  have h1 : (1 : Int) > 0 := by omega
  simp only [h1, if_true, Int.ediv_one]
  split <;> omega
theorem slicePart_ {v : Value} {o : Option Int} {Q : Option Int → Shared → Prop} (p : IsPart v o) (h : Q o s) : wpAny (model prog w) A (Builtin.Slice.slicePartIndex v) Q E s := by
  cases p with
  | none => exact slicePart_none h
  | int i t => exact slicePart_int h
theorem sliceApplied_gen {sl : Addr} {vl vu : Value} {lo hi : Option Int} {n : Nat} {Q : Int × Int × Nat → Shared → Prop} (hs : s.heap.IsSliceOf sl vl vu .none) (pl : IsPart vl lo) (pu : IsPart vu hi)
    (h : Q (((sIx n 0 lo : Nat) : Int), 1, sIx n n hi - sIx n 0 lo) s) : wpAny (model prog w) A (Builtin.Slice.sliceApplied (.ref sl) (pure (n : Int))) Q E s := by
  obtain ⟨os, hos, hcs, hds⟩ := id hs
  unfold Builtin.Slice.sliceApplied Builtin.Slice.sliceFields
  refine wpAny_bind (wpAny_bind (wpAny_field hos hds (x := vl) rfl (wpAny_bind (wpAny_field hos hds (x := vu) rfl (wpAny_bind (wpAny_field hos hds (x := .none) rfl (wpAny_pure ?_)))))))
  refine wpAny_bind (slicePart_none ?_)
  show wpAny _ _ (if ((1 : Int) == 0) = true then _ else _) _ _ s
  rw [if_neg (by decide)]
  refine wpAny_bind (slicePart_ pl (wpAny_bind (slicePart_ pu (wpAny_bind (wpAny_pure ?_)))))
  show wpAny _ _ (match Builtin.Slice.sliceAdjust lo hi 1 (n : Int) with | (lo, hi) => pure (lo, (1 : Int), Builtin.Slice.slicePlaces lo hi 1)) _ _ s
  rw [adjust_gen lo hi n]
  show wpAny _ _ (pure (((sIx n 0 lo : Nat) : Int), (1 : Int), Builtin.Slice.slicePlaces ((sIx n 0 lo : Nat) : Int) ((sIx n n hi : Nat) : Int) 1)) _ _ s
  rw [places_gen]
  exact wpAny_pure h
theorem pick_gen (xs : Array Value) (i k : Nat) : ((List.range k).filterMap fun (m : Nat) => xs[((i : Int) + (m : Int) * 1).toNat]?).toArray = ((xs.toList.drop i).take k).toArray := by
  have e : (fun (m : Nat) => xs[((i : Int) + (m : Int) * 1).toNat]?) = fun m => xs[i + m]? := by
    funext m
    have : ((i : Int) + (m : Int) * 1).toNat = i + m := by omega
    rw [this]
  rw [e]
  have := pick_run xs i k
  rw [List.filterMap_map] at this
  have e2 : ((fun x => xs[x]?) ∘ fun x => i + x) = fun m => xs[i + m]? := rfl
  rw [e2] at this
  rw [this]

theorem getItem_tuple_cut {t sl : Addr} {items : Array Value} {vl vu : Value} {lo hi : Option Int} {Q : Value → Shared → Prop} (ht : IsTup s.heap t items) (hs : s.heap.IsSliceOf sl vl vu .none) (pl : IsPart vl lo) (pu : IsPart vu hi)
    (hw : ¬ (sIx items.size 0 lo = 0 ∧ sIx items.size items.size hi = items.size))
    (h : Q (.ref s.heap.objs.size) { s with heap := s.heap.push { cls := .type "tuple", data := .seq ((items.toList.drop (sIx items.size 0 lo)).take (sIx items.size items.size hi - sIx items.size 0 lo)).toArray } })
    (hsz : items.size ≤ sizeLine) : wpAny (model prog w) A (getItem (.ref t) (.ref sl)) Q E s := by
  have htake : sizeOk (.seq ((items.toList.drop (sIx items.size 0 lo)).take (sIx items.size items.size hi - sIx items.size 0 lo)).toArray) := by
    show ((items.toList.drop (sIx items.size 0 lo)).take (sIx items.size items.size hi - sIx items.size 0 lo)).toArray.size ≤ sizeLine
    rw [List.size_toArray, List.length_take, List.length_drop, Array.length_toList]
    omega
  have hj : sIx items.size items.size hi ≤ items.size := sIx_le _ _ (Nat.le_refl _) hi
  obtain ⟨os, hos, hcs, hds⟩ := id hs
  have hTs : s.TypeIs (.ref sl) "slice" := ⟨os, hos, hcs⟩
  unfold getItem
  try with_reducible refine wpAny_holding ?_
  first | refine wpAny_bind (wpAny_pure ?_) | skip
  refine wpAny_bind (wpAny_sequenceKey ht.typeIs (by decide) ?_)
  refine wpAny_bind (wpAny_callSpecial?_slot (name := Str.ofString "__getitem__") ht.typeIs PyProof.Rows.slot_tuple_getitem
    (wpAny_call_entry PyProof.Rows.slot_tuple_getitem ht.typeIs entry_tuple_getitem ?_ (args_tuple_getitem _ _)))
  show wpAny _ _ (Builtin.Tuple.tupleItemsOf (.ref t) >>= _) _ _ s
  refine wpAny_bind (tupleItemsOf_ ht ?_)
  refine wpAny_bind (wpAny_typeOf hTs ?_)
  rw [if_pos (by decide)]
  refine wpAny_bind (sliceApplied_gen hs pl pu ?_)
  have hno : ¬ ((((sIx items.size 0 lo : Nat) : Int) == 0 && (1 : Int) == 1 && (sIx items.size items.size hi - sIx items.size 0 lo) == items.size) = true) := by
    intro q
    rw [Bool.and_eq_true, Bool.and_eq_true] at q
    have q1 : ((sIx items.size 0 lo : Nat) : Int) = 0 := eq_of_beq q.1.1
    have q2 : sIx items.size items.size hi - sIx items.size 0 lo = items.size := eq_of_beq q.2
    exact hw ⟨by omega, by omega⟩
  show wpAny _ _ (if (((sIx items.size 0 lo : Nat) : Int) == 0 && (1 : Int) == 1 && (sIx items.size items.size hi - sIx items.size 0 lo) == items.size) = true then _ else _) _ _ s
  rw [if_neg hno, pick_gen]
  first
    | exact wpAny_bind (m := Builtin.Tuple.tupleExact _) (wpAny_newObj_type (wpAny_pure ⟨_, rfl, wpAny_pure h⟩) htake)
    | exact wpAny_bind (m := Builtin.Tuple.tupleExact _) (wpAny_newObj_type (wpAny_bind (wpAny_pure (wpAny_pure ⟨_, rfl, wpAny_pure h⟩))) htake)
    | exact wpAny_bind (wpAny_bind (m := Builtin.Tuple.tupleExact _) (wpAny_newObj_type (wpAny_pure (wpAny_pure ⟨_, rfl, wpAny_pure h⟩)) htake))
    | exact wpAny_bind (wpAny_bind (m := Builtin.Tuple.tupleExact _) (wpAny_newObj_type (wpAny_pure ⟨_, rfl, wpAny_pure h⟩) htake))
end
end HT

namespace L2
open PySem PySem.Spec PyProof.Rows
abbrev TO := St → Hp → (Option Int → Hp → Prop) → Prop
def PO (X : Cx) (e : Option Expr) (t : TO) : Prop :=
  ∀ (pins : List (Addr × Obj)) (s : Shared) (σ : St) (H : Hp) (Q : Option Int → Hp → Prop), Inv X pins σ H s → t σ H Q →
    wpAny (model X.prog X.w) X.A (evalPart e X.env) (fun u s' => ∃ o H', Inv X pins σ H' s' ∧ IsPart u o ∧ Q o H') X.xe s
def tNoPart : TO := fun _ H Q => Q none H
def tPart (t : TE) : TO := fun σ H Q => t σ H fun x H1 => ∃ i, x = .int i ∧ Q (some i) H1

section
variable {X : Cx} {e : Expr} {te : TE} {lo hi : Option Expr} {tl th : TO} {pos p2 : Pos}

theorem po_none : PO X none tNoPart := by
  intro pins s σ H Q I h
  rw [evalPart_none]
  exact wpAny_pure ⟨none, H, I, .none, h⟩
theorem po_some (h : PE X e te) : PO X (some e) (tPart te) := by
  intro pins s σ H Q I hw
  rw [evalPart_some]
  refine thn (h pins s σ H _ I hw) fun u s1 ⟨x, H1, I1, r1, q1⟩ => ?_
  obtain ⟨i, rfl, q⟩ := q1
  obtain ⟨t, rfl⟩ := r1
  exact ⟨some i, H1, I1, .int i t, q⟩
def SlR (X : Cx) (r : V → Option Int → Option Int → Hp → VK → Prop) : Prop :=
  ∀ (pins : List (Addr × Obj)) (s : Shared) (σ : St) (H : Hp) (x : V) (v vl vu : Value) (lo hi : Option Int) (sl : Addr) (Q : VK), Inv X pins σ H s → RelV x v → s.heap.IsSliceOf sl vl vu .none → IsPart vl lo → IsPart vu hi → r x lo hi H Q →
    ∃ T id, typeLookup (.type T) "__getitem__" = pure (some (.builtin id)) ∧ s.TypeIs v T ∧ wpAny (model X.prog X.w) X.A (getItem v (.ref sl)) (EP X pins σ Q) X.xe s
theorem SlR.or {r r' : V → Option Int → Option Int → Hp → VK → Prop} (h : SlR X r) (h' : SlR X r') : SlR X (fun x lo hi H Q => r x lo hi H Q ∨ r' x lo hi H Q) := by
  intro pins s σ H x v vl vu lo hi sl Q I rx hs pl pu q
  rcases q with q | q
  · exact h pins s σ H x v vl vu lo hi sl Q I rx hs pl pu q
  · exact h' pins s σ H x v vl vu lo hi sl Q I rx hs pl pu q
def tSl (r : V → Option Int → Option Int → Hp → VK → Prop) (te : TE) (tl th : TO) : TE := fun σ H Q => te σ H fun x H1 => tl σ H1 fun l H2 => th σ H2 fun u H3 => r x l u H3 Q
theorem pe_slice {r : V → Option Int → Option Int → Hp → VK → Prop} (hr : SlR X r) (he : PE X e te) (hl : PO X lo tl) (hu : PO X hi th) : PE X (.Subscript e (.Slice lo hi none p2) pos) (tSl r te tl th) := by
  intro pins s σ H Q I h
  refine Subscript_ (thn (he pins s σ H _ I h) fun v s1 ⟨x, H1, I1, r1, q1⟩ => ?_)
  refine wpAny_Slice (thn (hl pins s1 σ H1 _ I1 q1) fun vl s2 ⟨l, H2, I2, pl, q2⟩ => thn (hu pins s2 σ H2 _ I2 q2) fun vu s3 ⟨u, H3, I3, pu, q3⟩ => ?_)
  rw [evalPart_none]
  refine wpAny_pure ?_
  have I4 : Inv X pins σ H3 { s3 with heap := s3.heap.push { cls := .type "slice", data := .fields #[vl, vu, .none] } } := I3.kept (t' := s3.toks) fun b ob q => Heap.get?_push_of_some _ q
  obtain ⟨T, id, hT, ht, hg⟩ := hr pins { s3 with heap := s3.heap.push { cls := .type "slice", data := .fields #[vl, vu, .none] } } σ H3 x v vl vu l u s3.heap.objs.size Q I4 r1 (Heap.IsSliceOf.new ..) pl pu q3
  show wpAny (model X.prog X.w) X.A (subscriptTail e (.Slice lo hi none p2) v (.ref s3.heap.objs.size)) (EP X pins σ Q) X.xe { s3 with heap := s3.heap.push { cls := .type "slice", data := .fields #[vl, vu, .none] } }
  exact tail_any (ops := [.ref s3.heap.objs.size, v]) ht hT hg (by with_unfolding_all rfl)
def cutV (xs : List V) (lo hi : Option Int) : List V := (xs.drop (HT.sIx xs.length 0 lo)).take (HT.sIx xs.length xs.length hi - HT.sIx xs.length 0 lo)
theorem cutV_length (xs : List V) (lo hi : Option Int) : (cutV xs lo hi).length ≤ xs.length := by
  unfold cutV
  rw [List.length_take, List.length_drop]
  omega
def rSlT (K : PySem.W.Frag) : V → Option Int → Option Int → Hp → VK → Prop := fun x lo hi H Q => ∃ a xs, x = .ref a ∧ SqT K H a xs ∧
  ¬ (HT.sIx xs.length 0 lo = 0 ∧ HT.sIx xs.length xs.length hi = xs.length) ∧ ∀ p, H p = none → Q (.ref p) (upd H p (.tup (cutV xs lo hi)))
theorem sl_tup : SlR X (rSlT X.K) := by
  intro pins s σ H x v vl vu lo hi sl Q I rx hs pl pu h
  obtain ⟨a, xs, rfl, hx, hw, q⟩ := h
  cases rx
  obtain ⟨its, r, ht, hz⟩ := I.tuple hx
  have hlen : its.toArray.size = xs.length := by rw [List.size_toArray]; exact r.length.symm
  refine ⟨"tuple", _, PyProof.Rows.slot_tuple_getitem.lookup, ht.typeIs, ?_⟩
  refine HT.getItem_tuple_cut ht hs pl pu (by rw [hlen]; exact hw) ?_ (by rw [hlen]; exact hz)
  rw [hlen]
  refine ⟨.ref s.heap.objs.size, _, I.laid (t' := s.toks) (o := .tup (cutV xs lo hi)) (fun b ob q => Heap.get?_push_of_some _ q) (Nat.le_refl _) ?_, rfl, q _ (I.hok.fresh (Nat.le_refl _))⟩
  exact ⟨Nat.le_trans (cutV_length xs lo hi) hz, _, (r.drop (HT.sIx xs.length 0 lo)).take (HT.sIx xs.length xs.length hi - HT.sIx xs.length 0 lo), IsTup.new _ _⟩
def rCatT (K : PySem.W.Frag) : R2 := fun x y H Q => ∃ a b xs ys, x = .ref a ∧ y = .ref b ∧ SqT K H a xs ∧ SqT K H b ys ∧ xs ≠ [] ∧ xs.length + ys.length ≤ sizeLine ∧
  (ys = [] → Q (.ref a) H) ∧ (ys ≠ [] → ∀ p, H p = none → Q (.ref p) (upd H p (.tup (xs ++ ys))))
theorem Vals.nil_iff {xs : List V} {us : List Value} (r : Vals xs us) : us = [] ↔ xs = [] := by
  cases r with
  | nil => simp
  | cons _ _ => simp
theorem op_catT : OpR X (binaryOp .Add) (rCatT X.K) := by
  intro pins s σ H x y v u Q I rx ry h
  obtain ⟨a, b, xs, ys, rfl, rfl, ha, hb, hx, hz, q1, q2⟩ := h
  cases rx
  cases ry
  obtain ⟨its, r1, p1, _⟩ := I.tuple ha
  obtain ⟨its2, r2, p2, _⟩ := I.tuple hb
  refine HT.cat_tup p1 p2 (fun z => hx (r1.nil_iff.mp z)) (fun z => ⟨.ref a, H, I, rfl, q1 (r2.nil_iff.mp z)⟩) (fun z => ?_) (by rw [← r1.length, ← r2.length]; exact hz)
  refine ⟨.ref s.heap.objs.size, _, I.laid (t' := s.toks) (o := .tup (xs ++ ys)) (fun b ob q => Heap.get?_push_of_some _ q) (Nat.le_refl _) ?_, rfl, q2 (fun w => z (r2.nil_iff.mpr w)) _ (I.hok.fresh (Nat.le_refl _))⟩
  exact ⟨by rw [List.length_append]; exact hz, _, r1.append r2, IsTup.new _ _⟩
end
end L2

namespace L2
open PySem PySem.Spec PyProof.Rows
def ixN (n : Nat) (i : Int) : Option Nat := if 0 ≤ i then (if i < n then some i.toNat else none) else if -(n : Int) ≤ i then some (i + n).toNat else none
def atI {α : Type} (xs : List α) (i : Int) : Option α := (ixN xs.length i).bind fun j => xs[j]?
theorem ixN_seq {n : Nat} {i : Int} {j : Nat} (h : ixN n i = some j) : seqIndex? i n = some j ∧ j < n ∧ -(n : Int) ≤ i ∧ i < n := by
  unfold ixN at h
  by_cases h0 : 0 ≤ i
  · rw [if_pos h0] at h
    by_cases h1 : i < n
    · rw [if_pos h1] at h
      have e : i.toNat = j := Option.some.inj h
      exact ⟨by rw [seqIndex_of h0 h1, e], by omega, by omega, h1⟩
    · rw [if_neg h1] at h; cases h
  · rw [if_neg h0] at h
    by_cases h1 : -(n : Int) ≤ i
    · rw [if_pos h1] at h
      have e : (i + n).toNat = j := Option.some.inj h
      exact ⟨by rw [seqIndex_neg (by omega) h1, e], by omega, h1, by omega⟩
    · rw [if_neg h1] at h; cases h
theorem atI_get {α : Type} {xs : List α} {i : Int} {v : α} (h : atI xs i = some v) : ∃ j, seqIndex? i xs.length = some j ∧ xs[j]? = some v ∧ j < xs.length ∧ -(xs.length : Int) ≤ i ∧ i < xs.length := by
  unfold atI at h
  cases e : ixN xs.length i with
  | none => rw [e] at h; cases h
  | some j =>
    rw [e] at h
    obtain ⟨h1, h2, h3, h4⟩ := ixN_seq e
    exact ⟨j, h1, h, h2, h3, h4⟩
theorem atI_nat {α : Type} {xs : List α} {j : Nat} {v : α} (h : xs[j]? = some v) : atI xs (j : Int) = some v := by
  have hj : j < xs.length := (List.getElem?_eq_some_iff.mp h).1
  have e : ixN xs.length (j : Int) = some j := by
    unfold ixN
    rw [if_pos (by omega), if_pos (by omega)]; simp
  unfold atI; rw [e]; exact h
def PlainIx (b : Expr) : Prop := ∀ o i, subscripted b false o i = operate [o, i] (getItem o i)
def IxR (X : Cx) (r : R2) : Prop :=
  ∀ (value slice : Expr) (pins : List (Addr × Obj)) (s : Shared) (σ : St) (H : Hp) (x y : V) (v u : Value) (Q : VK), Inv X pins σ H s → RelV x v → RelV y u → r x y H Q →
    subscripted slice false v u = operate [v, u] (getItem v u) → wpAny (model X.prog X.w) X.A (subscriptTail value slice v u) (EP X pins σ Q) X.xe s
def MtR (X : Cx) (id : String) (r : V → List V → Hp → VK → Prop) : Prop :=
  ∀ (pins : List (Addr × Obj)) (s : Shared) (σ : St) (H : Hp) (x : V) (xs : List V) (v : Value) (us : List Value) (Q : VK), Inv X pins σ H s → RelV x v → Vals xs us → r x xs H Q →
    wpAny (model X.prog X.w) X.A (call (.builtin id) (v :: us)) (EP X pins σ Q) X.xe s
section
variable {X : Cx} {a b : Expr} {ta tb : TE} {pos : Pos}
theorem IxR.or {r r' : R2} (h : IxR X r) (h' : IxR X r') : IxR X (fun x y H Q => r x y H Q ∨ r' x y H Q) := by
  intro value slice pins s σ H x y v u Q I rx ry q hs
  rcases q with q | q
  · exact h value slice pins s σ H x y v u Q I rx ry q hs
  · exact h' value slice pins s σ H x y v u Q I rx ry q hs
theorem MtR.or {id : String} {r r' : V → List V → Hp → VK → Prop} (h : MtR X id r) (h' : MtR X id r') : MtR X id (fun x xs H Q => r x xs H Q ∨ r' x xs H Q) := by
  intro pins s σ H x xs v us Q I rx rs q
  rcases q with q | q
  · exact h pins s σ H x xs v us Q I rx rs q
  · exact h' pins s σ H x xs v us Q I rx rs q
theorem pe_ix {r : R2} (hr : IxR X r) (ha : PE X a ta) (hb : PE X b tb) (hs : PlainIx b) : PE X (.Subscript a b pos) (tOp r ta tb) := by
  intro pins s σ H Q I h
  exact Subscript_ (binT ha hb I h fun v u s2 x y H2 I2 rx ry q => hr a b pins s2 σ H2 x y v u Q I2 rx ry q (hs _ _))

def rIxL (K : PySem.W.Frag) : R2 := fun x y H Q => ∃ p xs i v, x = .ref p ∧ y = .int i ∧ SqL K H p xs ∧ atI xs i = some v ∧ Q v H
def rIxT (K : PySem.W.Frag) : R2 := fun x y H Q => ∃ p xs i v, x = .ref p ∧ y = .int i ∧ SqT K H p xs ∧ atI xs i = some v ∧ Q v H
def rIxS : R2 := fun x y H Q => ∃ z i c, x = .str z ∧ y = .int i ∧ z.length ≤ sizeLine ∧ atI z.cps.toList i = some c ∧ Q (.str ⟨#[c]⟩) H
theorem ix_list : IxR X (rIxL X.K) := by
  intro value slice pins s σ H x y v u Q I rx ry h hs
  obtain ⟨p, xs, i, z, rfl, rfl, hq, he, q⟩ := h
  cases rx
  obtain ⟨t, rfl⟩ := ry
  obtain ⟨its, r, pl, hz⟩ := I.list hq
  obtain ⟨j, h1, h2, h3, h4, h5⟩ := atI_get he
  obtain ⟨w, ew, rw'⟩ := r.get h2
  have hl := r.length
  have hn := line63
  have fin : EP X pins σ Q w s := ⟨z, H, I, rw', q⟩
  by_cases h0 : 0 ≤ i
  · have hj : i.toNat = j := by
      rw [seqIndex_of h0 h5] at h1
      exact Option.some.inj h1
    exact item_listR pl.isList h0 (by omega) (by rw [hj]; simpa using ew) fin hs
  · have hj : (i + (its.toArray.size : Int)).toNat = j := by
      rw [seqIndex_neg (by omega) h4] at h1
      rw [List.size_toArray, ← hl]
      exact Option.some.inj h1
    exact subscriptTail_builtinR (x := w) pl.isList.typeIs slot_list_getitem.lookup
      (wpAny_getItem_list_neg (Q := fun r s' => r = w ∧ EP X pins σ Q r s') pl.isList (by omega) (by rw [List.size_toArray] <;> omega) (by omega) (by rw [hj]; simpa using ew) ⟨rfl, fin⟩) hs
theorem ix_tup : IxR X (rIxT X.K) := by
  intro value slice pins s σ H x y v u Q I rx ry h hs
  obtain ⟨p, xs, i, z, rfl, rfl, hq, he, q⟩ := h
  cases rx
  obtain ⟨t, rfl⟩ := ry
  obtain ⟨its, r, pl, hz⟩ := I.tuple hq
  obtain ⟨j, h1, h2, h3, h4, h5⟩ := atI_get he
  obtain ⟨w, ew, rw'⟩ := r.get h2
  have hl := r.length
  have hn := line63
  have fin : EP X pins σ Q w s := ⟨z, H, I, rw', q⟩
  exact subscriptTail_builtinR (x := w) pl.typeIs slot_tuple_getitem.lookup
    (getItem_tuple (j := j) (Q := fun r s' => r = w ∧ EP X pins σ Q r s') pl (by omega) (by omega) (by rw [List.size_toArray, ← hl]; exact h1) (by simpa using ew) ⟨rfl, fin⟩) hs
theorem ix_str : IxR X rIxS := by
  intro value slice pins s σ H x y v u Q I rx ry h hs
  obtain ⟨z, i, c, rfl, rfl, hz, he, q⟩ := h
  obtain ⟨t, rfl⟩ := rx
  obtain ⟨t', rfl⟩ := ry
  obtain ⟨j, h1, h2, h3, h4, h5⟩ := atI_get he
  have hl : z.cps.toList.length = z.length := by simp [Str.length]
  rw [hl] at h1 h4 h5
  have hn := line63
  exact tail_any (typeIs_str s z t) slot_str_getitem.lookup (getItem_str (c := c) (by
    have e1 : decide (i < -(2 ^ 63 : Int)) = false := decide_eq_false (by omega)
    have e2 : decide (i ≥ 2 ^ 63) = false := decide_eq_false (by omega)
    rw [e1, e2, Bool.or_false]) (by rw [h1]; simpa using h2) ⟨.str ⟨#[c]⟩, H, I.tok _, ⟨_, rfl⟩, q⟩) hs
theorem mapSeq_set (its : List Value) (n j : Nat) (u : Value) : Obj.mapSeq (·.setIfInBounds j u) { cls := .type "list", data := .seq its.toArray n } = { cls := .type "list", data := .seq (its.set j u).toArray n } := by
  simp [Obj.mapSeq]
theorem Inv.lst {pins : List (Addr × Obj)} {σ : St} {H : Hp} {s : Shared} {p : Addr} {xs : List V} (I : Inv X pins σ H s) (h : H p = some (.lst xs)) :
    ∃ (its : List Value) (n : Nat), Vals xs its ∧ s.heap.get? p = some { cls := .type "list", data := .seq its.toArray n } ∧ xs.length ≤ sizeLine := by
  obtain ⟨z, its, n, r, e⟩ := I.hok p _ h
  exact ⟨its, n, r, e, z⟩
theorem Inv.lstUpd {pins : List (Addr × Obj)} {σ : St} {H : Hp} {s : Shared} {p : Addr} {xs ys : List V} {its its' : List Value} {n n' : Nat} {f : Obj → Obj} (I : Inv X pins σ H s) (h : H p = some (.lst xs))
    (ho : s.heap.get? p = some { cls := .type "list", data := .seq its.toArray n }) (hf : f { cls := .type "list", data := .seq its.toArray n } = { cls := .type "list", data := .seq its'.toArray n' }) (r : Vals ys its') (hz : ys.length ≤ sizeLine) (t : Nat) :
    Inv X pins σ (upd H p (.lst ys)) { s with heap := s.heap.update p f, toks := t } := by
  have e : (s.heap.update p f).get? p = some { cls := .type "list", data := .seq its'.toArray n' } := by
    rw [Heap.get?_update_self f ho (by rw [hf] <;> rfl), hf]
  refine I.write (x := p) (e := p) (by rw [h]; trivial) (.inl rfl) (fun b u hb q => (Heap.get?_update_other _ _ (Ne.symm hb)).trans q) ⟨_, e⟩ ?_
  exact ⟨hz, its', n', r, e⟩
def rSetL : V → V → V → Hp → (Hp → Prop) → Prop := fun o i v H Q => ∃ p xs k j, o = .ref p ∧ i = .int k ∧ H p = some (.lst xs) ∧ ixN xs.length k = some j ∧ Q (upd H p (.lst (xs.set j v)))
theorem set_list : PSet X rSetL := by
  intro pins s σ H o i v ov iv u Q I ro ri rv h
  obtain ⟨p, xs, k, j, rfl, rfl, hp, hj, q⟩ := h
  cases ro
  obtain ⟨t, rfl⟩ := ri
  obtain ⟨its, n, r, ho, hz⟩ := I.lst hp
  obtain ⟨h1, h2, h3, h4⟩ := ixN_seq hj
  have hl := r.length
  have hn := line63
  have I' : Inv X pins σ (upd H p (.lst (xs.set j v))) { s with heap := s.heap.update p (Obj.mapSeq (·.setIfInBounds j u)) } :=
    I.lstUpd hp ho (mapSeq_set its n j u) (r.set rv j) (by rw [List.length_set]; exact hz) s.toks
  by_cases h0 : 0 ≤ k
  · have hk : k.toNat = j := by
      rw [seqIndex_of h0 h4] at h1
      exact Option.some.inj h1
    exact PySem.W.ki_setAt ho h0 (by omega) (by rw [List.size_toArray, ← hl]; exact h4) (by rw [hk]; exact ⟨_, I', q⟩)
  · have hk : (k + (its.toArray.size : Int)).toNat = j := by
      rw [seqIndex_neg (by omega) h3] at h1
      rw [List.size_toArray, ← hl]
      exact Option.some.inj h1
    exact PySem.W.ki_setBack ho (by omega) (by rw [List.size_toArray, ← hl]; exact h3) (by omega) (by rw [hk]; exact ⟨_, I', q⟩)
theorem slice_bounds (lo hi : Option Int) (n : Nat) : (sliceBounds lo hi none n).1 = ((HT.sIx n 0 lo : Nat) : Int) ∧ (sliceBounds lo hi none n).2.1 = ((HT.sIx n n hi : Nat) : Int) ∧ (sliceBounds lo hi none n).2.2 = 1 := by
  refine ⟨?_, ?_, rfl⟩
  · cases lo with
    | none => simp [sliceBounds, HT.sIx]
    | some i =>
      simp only [sliceBounds, HT.sIx, Option.getD_none, show (1 : Int) > 0 by decide, if_true]
      by_cases h : i < 0
      · simp only [h, if_true] <;> omega
      · simp only [h, if_false] <;> omega
  · cases hi with
    | none => simp [sliceBounds, HT.sIx]
    | some i =>
      simp only [sliceBounds, HT.sIx, Option.getD_none, show (1 : Int) > 0 by decide, if_true]
      by_cases h : i < 0
      · simp only [h, if_true] <;> omega
      · simp only [h, if_false] <;> omega
theorem slicePick_cut (its : List Value) (lo hi : Option Int) : slicePick its.toArray lo hi none = ((its.drop (HT.sIx its.length 0 lo)).take (HT.sIx its.length its.length hi - HT.sIx its.length 0 lo)).toArray := by
  obtain ⟨h1, h2, h3⟩ := slice_bounds lo hi its.toArray.size
  unfold slicePick
  rw [h1, h2, h3]
  simp only [sliceRange_one, pick_run, List.size_toArray] <;> rfl
def rSlL (K : PySem.W.Frag) : V → Option Int → Option Int → Hp → VK → Prop := fun x lo hi H Q => ∃ a xs, x = .ref a ∧ SqL K H a xs ∧ ∀ p, H p = none → Q (.ref p) (upd H p (.lst (cutV xs lo hi)))
theorem sl_list : SlR X (rSlL X.K) := by
  intro pins s σ H x v vl vu lo hi sl Q I rx hs pl pu h
  obtain ⟨a, xs, rfl, hx, q⟩ := h
  cases rx
  obtain ⟨its, r, ht, hz⟩ := I.list hx
  have hlen := r.length
  refine ⟨"list", _, slot_list_getitem.lookup, ht.isList.typeIs, ?_⟩
  refine wpAny_getItem_list_slice ht.isList hs pl pu .none (by simp) ?_ (by rw [List.size_toArray] <;> omega)
  rw [slicePick_cut, ← hlen]
  refine ⟨.ref s.heap.objs.size, _, I.laid (t' := s.toks) (o := .lst (cutV xs lo hi)) (fun b ob q => Heap.get?_push_of_some _ q) (Nat.le_refl _) ?_, rfl, q _ (I.hok.fresh (Nat.le_refl _))⟩
  exact ⟨Nat.le_trans (cutV_length xs lo hi) hz, _, 0, (r.drop (HT.sIx xs.length 0 lo)).take (HT.sIx xs.length xs.length hi - HT.sIx xs.length 0 lo), Heap.get?_push_size _ rfl⟩
def flatV : V → Bool
  | .non => true
  | .bl _ => true
  | .int _ => true
  | .str _ => true
  | _ => false
def eqV : V → V → Bool
  | .non, .non => true
  | .bl a, .bl b => a == b
  | .bl a, .int b => (if a then 1 else 0) == b
  | .int a, .bl b => a == (if b then 1 else 0)
  | .int a, .int b => a == b
  | .str a, .str b => a == b
  | _, _ => false
theorem eqAt_V {A : Around} {s : Shared} {y x : V} {u v : Value} (ry : RelV y u) (rx : RelV x v) (fy : flatV y = true) (fx : flatV x = true) : SeqAt.EqAt A s u v (eqV y x) := by
  cases y with
  | non =>
    cases ry
    cases x with
    | non => cases rx; exact SeqAt.EqAt.same _
    | bl b => cases rx; exact SeqAt.EqAt.none_bool b
    | int b => obtain ⟨t, rfl⟩ := rx; exact SeqAt.EqAt.none_int b t
    | str b => obtain ⟨t, rfl⟩ := rx; exact SeqAt.EqAt.none_str b t
    | _ => exact absurd (show false = true from fx) Bool.false_ne_true
  | bl a =>
    cases ry
    cases x with
    | non => cases rx; exact SeqAt.EqAt.bool_none a
    | bl b => cases rx; exact SeqAt.EqAt.bool_bool a b
    | int b => obtain ⟨t, rfl⟩ := rx; exact SeqAt.EqAt.bool_int a b t
    | str b => obtain ⟨t, rfl⟩ := rx; exact SeqAt.EqAt.bool_str a b t
    | _ => exact absurd (show false = true from fx) Bool.false_ne_true
  | int a =>
    obtain ⟨t', rfl⟩ := ry
    cases x with
    | non => cases rx; exact SeqAt.EqAt.int_none a t'
    | bl b => cases rx; exact SeqAt.EqAt.int_bool a t' b
    | int b => obtain ⟨t, rfl⟩ := rx; exact SeqAt.EqAt.int_int a t' b t
    | str b => obtain ⟨t, rfl⟩ := rx; exact SeqAt.EqAt.int_str a t' b t
    | _ => exact absurd (show false = true from fx) Bool.false_ne_true
  | str a =>
    obtain ⟨t', rfl⟩ := ry
    cases x with
    | non => cases rx; exact SeqAt.EqAt.str_none a t'
    | bl b => cases rx; exact SeqAt.EqAt.str_bool a t' b
    | int b => obtain ⟨t, rfl⟩ := rx; exact SeqAt.EqAt.str_int a t' b t
    | str b => obtain ⟨t, rfl⟩ := rx; exact SeqAt.EqAt.str_str a t' b t
    | _ => exact absurd (show false = true from fx) Bool.false_ne_true
  | _ => exact absurd (show false = true from fy) Bool.false_ne_true
def eqU (x : V) (u : Value) : Bool := match u with
  | .none => eqV .non x
  | .bool b => eqV (.bl b) x
  | .int i _ => eqV (.int i) x
  | .str z _ => eqV (.str z) x
  | _ => false
theorem eqU_of {x y : V} {u : Value} (r : RelV y u) (f : flatV y = true) : eqU x u = eqV y x := by
  cases y with
  | non => cases r; rfl
  | bl b => cases r; rfl
  | int i => obtain ⟨t, rfl⟩ := r; rfl
  | str z => obtain ⟨t, rfl⟩ := r; rfl
  | _ => exact absurd (show false = true from f) Bool.false_ne_true
theorem any_eqU {x : V} : ∀ {xs : List V} {us : List Value}, Vals xs us → xs.all flatV = true → us.any (eqU x) = xs.any fun y => eqV y x
  | _, _, .nil, _ => rfl
  | y :: xs, u :: us, .cons r t, f => by
    rw [List.all_cons, Bool.and_eq_true] at f
    rw [List.any_cons, List.any_cons, eqU_of r f.1, any_eqU t f.2]
theorem mem_eqAt {A : Around} {s : Shared} {x : V} {v : Value} (rx : RelV x v) (fx : flatV x = true) : ∀ {xs : List V} {us : List Value}, Vals xs us → xs.all flatV = true → ∀ u ∈ us, SeqAt.EqAt A s u v (eqU x u)
  | _, _, .nil, _ => fun u hu => by cases hu
  | y :: xs, u :: us, .cons r t, f => fun u' hu => by
    rw [List.all_cons, Bool.and_eq_true] at f
    rcases List.mem_cons.mp hu with rfl | hu
    · rw [eqU_of r f.1]; exact eqAt_V r rx f.1 fx
    · exact mem_eqAt rx fx t f.2 u' hu
def inV (x : V) (xs : List V) : Bool := xs.any fun y => eqV y x
def rIn (K : PySem.W.Frag) (neg : Bool) : R2 := fun x y H Q => ∃ p xs, y = .ref p ∧ (SqL K H p xs ∨ SqT K H p xs) ∧ flatV x = true ∧ xs.all flatV = true ∧ Q (.bl (if neg then !inV x xs else inV x xs)) H
theorem op_in_seq : OpR X (compareOp .In) (rIn X.K false) := by
  intro pins s σ H x y v u Q I rx ry h
  obtain ⟨p, xs, rfl, hq, fx, fs, q⟩ := h
  cases ry
  rcases hq with hq | hq
  · obtain ⟨its, r, pl, hz⟩ := I.list hq
    refine SeqAt.in_listAt (eqU x) pl.isList (fun w hw => mem_eqAt rx fx r fs w (by simpa using hw)) ⟨.bl _, H, I, rfl, ?_⟩
    rw [show its.toArray.any (eqU x) = its.any (eqU x) by simp, any_eqU r fs]
    exact q
  · obtain ⟨its, r, pl, hz⟩ := I.tuple hq
    refine SeqAt.in_tupleAt (eqU x) pl (fun w hw => mem_eqAt rx fx r fs w (by simpa using hw)) ⟨.bl _, H, I, rfl, ?_⟩
    rw [show its.toArray.any (eqU x) = its.any (eqU x) by simp, any_eqU r fs]
    exact q
theorem op_notIn_str : OpR X (compareOp .NotIn) (fun x y H Q => ∃ i j, x = .str i ∧ y = .str j ∧ Q (.bl (!(!(Builtin.Str.occurrences j i 0 j.length 1).isEmpty))) H) := by
  intro pins s σ H x y v u Q I rx ry h
  obtain ⟨i, j, rfl, rfl, q⟩ := h
  obtain ⟨t, rfl⟩ := rx
  obtain ⟨t', rfl⟩ := ry
  exact notIn_str ⟨.bl _, H, I, rfl, q⟩
theorem call_len_seq : CallR X (.builtin "len") (fun xs H Q => ∃ p ys, xs = [.ref p] ∧ (SqL X.K H p ys ∨ SqT X.K H p ys) ∧ Q (.int ys.length) H) := by
  intro pins s σ H xs us Q I r h
  obtain ⟨p, ys, rfl, hq, q⟩ := h
  obtain ⟨u, rfl, rx⟩ := vals1 r
  cases rx
  have hn := line63
  rcases hq with hq | hq
  · obtain ⟨its, r', pl, hz⟩ := I.list hq
    have hlen := r'.length
    exact Calls.call_len_list pl.isList (by simp only [List.size_toArray] <;> omega) ⟨.int ys.length, H, I.tok _, ⟨s.toks + 1, by rw [List.size_toArray, hlen]⟩, q⟩
  · obtain ⟨its, r', pl, hz⟩ := I.tuple hq
    have hlen := r'.length
    exact len_tuple pl (by simp only [List.size_toArray] <;> omega) ⟨.int ys.length, H, I.tok _, ⟨s.toks + 1, by rw [List.size_toArray, hlen]⟩, q⟩
theorem call_len_str : CallR X (.builtin "len") (fun xs H Q => ∃ z, xs = [.str z] ∧ z.length ≤ sizeLine ∧ Q (.int z.length) H) := by
  intro pins s σ H xs us Q I r h
  obtain ⟨z, rfl, hz, q⟩ := h
  obtain ⟨u, rfl, t, rfl⟩ := vals1 r
  have hn := line63
  exact len_str (by omega) ⟨.int z.length, H, I.tok _, ⟨_, rfl⟩, q⟩
theorem CallR.or {f : Value} {r r' : List V → Hp → VK → Prop} (h : CallR X f r) (h' : CallR X f r') : CallR X f (fun xs H Q => r xs H Q ∨ r' xs H Q) := by
  intro pins s σ H xs us Q I rs q
  rcases q with q | q
  · exact h pins s σ H xs us Q I rs q
  · exact h' pins s σ H xs us Q I rs q
theorem call_tuple_of : CallR X (.type "tuple") (fun xs H Q => ∃ p ys, xs = [.ref p] ∧ ((SqL X.K H p ys ∧ ∀ l, H l = none → Q (.ref l) (upd H l (.tup ys))) ∨ (SqT X.K H p ys ∧ Q (.ref p) H))) := by
  intro pins s σ H xs us Q I r h
  obtain ⟨p, ys, rfl, h⟩ := h
  obtain ⟨u, rfl, rx⟩ := vals1 r
  cases rx
  rcases h with ⟨hq, q⟩ | ⟨hq, q⟩
  · obtain ⟨its, r', pl, hz⟩ := I.list hq
    have hlen := r'.length
    refine call_tuple_list pl.isList (fun h' kp => ?_) (by simp only [List.size_toArray] <;> omega)
    have I1 : Inv X pins σ H { s with heap := h' } := I.kept (t' := s.toks) kp
    have I2 : Inv X pins σ (upd H h'.objs.size (.tup ys)) { s with heap := h'.push { cls := .type "tuple", data := .seq its.toArray } } :=
      I1.laid (t' := s.toks) (fun b o e => Heap.get?_push_of_some _ e) (Nat.le_refl _) (show ObjOk X.prog X.w _ _ _ (.tup ys) from ⟨hz, its, r', IsTup.new _ _⟩)
    exact ⟨.ref h'.objs.size, _, I2, rfl, q _ (I1.hok.fresh (Nat.le_refl _))⟩
  · obtain ⟨its, r', pl, hz⟩ := I.tuple hq
    exact call_tuple_same pl ⟨.ref p, H, I, rfl, q⟩
def tyV (K : PySem.W.Frag) (T : String) (x : V) (H : Hp) : Prop := match x with
  | .str _ => T = "str"
  | .int _ => T = "int"
  | .ref p => (T = "list" ∧ ∃ xs, SqL K H p xs) ∨ (T = "tuple" ∧ ∃ o, K.lookup p = some o ∧ o.cls = .type "tuple" ∧ o.dict = none) ∨
      (T = "dict" ∧ ((∃ kvs, H p = some (.dK kvs)) ∨ ∃ kvs, H p = some (.dT kvs))) ∨ (T = "set" ∧ ∃ S n, H p = some (.set S n))
  | _ => False
theorem tyV_is {pins : List (Addr × Obj)} {σ : St} {H : Hp} {s : Shared} {T : String} {x : V} {v : Value} (I : Inv X pins σ H s) (r : RelV x v) (ty : tyV X.K T x H) :
    s.TypeIs v T ∧ ∀ a, v = .ref a → ∃ ob, s.heap.get? a = some ob ∧ ob.dict = none := by
  cases x with
  | str z =>
    obtain ⟨t, rfl⟩ := r
    cases (show T = "str" from ty)
    exact ⟨typeIs_str s z t, fun _ e => nomatch e⟩
  | int i =>
    obtain ⟨t, rfl⟩ := r
    cases (show T = "int" from ty)
    exact ⟨typeIs_int s i t, fun _ e => nomatch e⟩
  | ref p =>
    cases r
    rcases ty with ⟨rfl, xs, hq⟩ | ⟨rfl, o, hk, hc, hd⟩ | ⟨rfl, hk⟩ | ⟨rfl, S, n, hk⟩
    · obtain ⟨its, _, pl, _⟩ := I.list hq
      refine ⟨pl.isList.typeIs, fun a e => ?_⟩
      cases e
      obtain ⟨o, n, e, c, hd, _⟩ := pl
      exact ⟨o, e, hd⟩
    · refine ⟨⟨o, I.kIn p o hk, hc⟩, fun a e => ?_⟩
      cases e
      exact ⟨o, I.kIn _ o hk, hd⟩
    · have z : ∃ o, s.heap.get? p = some o ∧ o.ExactDict := by
        rcases hk with ⟨kvs, hk⟩ | ⟨kvs, hk⟩
        · obtain ⟨_, _, _, _, o, _, _, e, ex, _⟩ := I.hok p _ hk
          exact ⟨o, e, ex⟩
        · obtain ⟨_, _, _, _, o, _, _, e, ex, _⟩ := I.hok p _ hk
          exact ⟨o, e, ex⟩
      obtain ⟨o, e, ex⟩ := z
      refine ⟨⟨o, e, ex.1⟩, fun a e2 => ?_⟩
      cases e2
      exact ⟨o, e, ex.2.1⟩
    · obtain ⟨o, _, _, _, e, ex, _⟩ := I.hok p _ hk
      refine ⟨⟨o, e, ex.1⟩, fun a e2 => ?_⟩
      cases e2
      exact ⟨o, e, ex.2.1⟩
  | _ => exact False.elim ty
def tBM (K : PySem.W.Frag) (T : String) (r : V → List V → Hp → VK → Prop) (to : TE) (t : TA) : TE := fun σ H Q => to σ H fun x H1 => tyV K T x H1 ∧ t σ H1 fun xs H2 => r x xs H2 Q
variable {o e : Expr} {es : List Expr} {to : TE} {t : TA} {name : Str} {apos cpos : Pos} {T id : String} {r : V → List V → Hp → VK → Prop}
theorem pe_bm (pa : PlainAttrs T) (slot : Slot T name id) (hty : typeOf (.builtin id) = pure (.type "method_descriptor")) (hm : MtR X id r) (ho : PE X o to) (ha : PA X (e :: es) t)
    (hbase : attributeBase o name X.env (eval o X.env) = eval o X.env := by rfl)
    (hfew : ((backTo cpos (starEach (e :: es) X.env)).all (fun x => !x.1) && (backToKw cpos (keywordEach [] X.env)).all (fun x => x.1.isSome)
      && decide ((e :: es).length + ([] : List Keyword).length + (if ([] : List Keyword).isEmpty then 0 else 1) < 30)) = true := by rfl)
    (hline : (apos.endLine == cpos.line) = true := by rfl) (hs : starEach (e :: es) X.env = (false, eval e X.env) :: starEach es X.env := by rfl) (hplain : (backTo cpos (starEach es X.env)).any (·.1) = false := by rfl) :
    PE X (.Call (.Attribute o name apos) (e :: es) [] cpos) (tBM X.K T r to t) := by
  intro pins s σ H Q I h
  refine wpAny_Call_method_late hbase hfew hline rfl (thn (ho pins s σ H _ I h) fun v s1 ⟨x, H1, I1, r1, ty, q1⟩ => ?_)
  obtain ⟨h1, h2⟩ := tyV_is I1 r1 ty
  refine ⟨T, id, pa, slot, hty, h1, h2, ?_⟩
  have hA := ha cpos pins s1 σ H1 _ I1 q1
  rw [hs] at hA ⊢
  refine Calls.callWith_builtin (by show (false || (backTo cpos (starEach es X.env)).any (·.1)) = false; rw [hplain] <;> rfl) (Calls.evalArgs_plain ?_)
  exact thn hA fun us s2 ⟨vs, H2, I2, r2, q2⟩ => hm pins s2 σ H2 x vs v us Q I2 r1 r2 q2
/- xs.append(e), list.index on a module's tuple .. are MtR facts of 06m -/
end
end L2

namespace L2
open PySem PySem.Spec PyProof.Rows

def MtM (X : Cx) (id : String) (r : V → List V → Hp → VK → Prop) : Prop :=
  ∀ (pins : List (Addr × Obj)) (s : Shared) (σ : St) (H : Hp) (x : V) (xs : List V) (v : Value) (us : List Value) (Q : VK), Inv X pins σ H s → RelV x v → Vals xs us → r x xs H Q →
    wpAny (model X.prog X.w) X.A (call (.builtin id) (v :: us)) (EP X pins σ Q) X.xe s
theorem Vals.one : ∀ {x : V} {us : List Value}, Vals [x] us → ∃ u, us = [u] ∧ RelV x u
  | _, _, .cons r .nil => ⟨_, rfl, r⟩
theorem Vals.zero : ∀ {us : List Value}, Vals [] us → us = []
  | _, .nil => rfl
theorem Vals.reverse {xs : List V} {us : List Value} (h : Vals xs us) : Vals xs.reverse us.reverse := by
  induction h with
  | nil => exact .nil
  | cons r t ih => rw [List.reverse_cons, List.reverse_cons]; exact Vals.append ih (.cons r .nil)
section
variable {X : Cx} {pins : List (Addr × Obj)} {σ : St} {H : Hp} {s : Shared} {l b : Addr} {xs ys zs : List V}
theorem Inv.lset {its its' : List Value} {n : Nat} {f : Array Value → Array Value} {t' : Nat} (I : Inv X pins σ H s) (hH : H l = some (.lst xs))
    (e : s.heap.get? l = some { cls := .type "list", data := .seq its.toArray n }) (hf : f its.toArray = its'.toArray) (hv : Vals ys its') (hz : ys.length ≤ sizeLine) :
    Inv X pins σ (upd H l (.lst ys)) { s with heap := s.heap.update l (Obj.mapSeq f), toks := t' } := by
  have q := PySem.IsL.update e f
  rw [hf] at q
  refine I.write (x := l) (e := l) (by rw [hH]; exact trivial) (.inl rfl) (fun b' u hb hu => (Heap.get?_update_other s.heap (Obj.mapSeq f) (Ne.symm hb)).trans hu) ⟨_, q⟩ ?_
  exact ⟨hz, its', _, hv, q⟩
theorem Inv.lnew {its : List Value} {t' : Nat} (I : Inv X pins σ H s) (hv : Vals ys its) (hz : ys.length ≤ sizeLine) :
    Inv X pins σ (upd H s.heap.objs.size (.lst ys)) { s with heap := s.heap.push { cls := .type "list", data := .seq its.toArray }, toks := t' } :=
  I.laid (fun _ _ q => Heap.get?_push_of_some _ q) (Nat.le_refl _) ⟨hz, its, 0, hv, Heap.get?_push_size _ rfl⟩
theorem Inv.fresh (I : Inv X pins σ H s) : H s.heap.objs.size = none := I.hok.fresh (Nat.le_refl _)
theorem Inv.lstM (I : Inv X pins σ H s) (hH : H l = some (.lst xs)) : xs.length ≤ sizeLine ∧ ∃ (its : List Value) (n : Nat), Vals xs its ∧ xs.length = its.length ∧ s.heap.get? l = some { cls := .type "list", data := .seq its.toArray n } := by
  obtain ⟨z, its, n, r, e⟩ := I.hok l _ hH
  exact ⟨z, its, n, r, r.length, e⟩

theorem notLongL {n : Nat} (h : n ≤ sizeLine) : Builtin.List.listTooLong n = false := by
  unfold Builtin.List.listTooLong
  exact decide_eq_false (by omega)
end

section
variable {X : Cx}
def rAppend : V → List V → Hp → VK → Prop := fun x vs H Q => ∃ l xs y, x = .ref l ∧ vs = [y] ∧ H l = some (.lst xs) ∧ xs.length < sizeLine ∧ Q .non (upd H l (.lst (xs ++ [y])))
theorem mt_append : MtM X "list.append" rAppend := by
  intro pins s σ H x vs v us Q I rx rv h
  obtain ⟨l, xs, y, rfl, rfl, hH, hz, q⟩ := h
  cases rx
  obtain ⟨u, rfl, ru⟩ := rv.one
  obtain ⟨z, its, n, r, hl, e⟩ := I.lstM hH
  refine call_meets F.slot_list_append ⟨_, e, rfl⟩ F.entry_list_append (F.args_list_append_2 _ _) (PySem.list_append l its.toArray n u (by rw [List.size_toArray]; omega)) ⟨e, ?_⟩
  refine ⟨.non, _, I.lset (its' := its ++ [u]) hH e (by simp) (r.append (.cons ru .nil)) ?_, rfl, q⟩
  rw [List.length_append, List.length_singleton]
  omega

def rCat : R2 := fun x y H Q => ∃ l b xs zs, x = .ref l ∧ y = .ref b ∧ H l = some (.lst xs) ∧ H b = some (.lst zs) ∧ xs.length + zs.length ≤ sizeLine ∧ ∀ p, H p = none → Q (.ref p) (upd H p (.lst (xs ++ zs)))
theorem op_cat : OpR X (binaryOp .Add) rCat := by
  intro pins s σ H x y v u Q I rx ry h
  obtain ⟨l, b, xs, zs, rfl, rfl, hH, hB, hz, q⟩ := h
  cases rx
  cases ry
  obtain ⟨z, its, n, r, hl, e⟩ := I.lstM hH
  obtain ⟨z2, its2, n2, r2, hl2, e2⟩ := I.lstM hB
  refine PySem.P.add_list e e2 ?_ (by rw [List.size_toArray, List.size_toArray]; omega)
  have ea : its.toArray ++ its2.toArray = (its ++ its2).toArray := by simp
  rw [ea]
  exact ⟨.ref _, _, I.lnew (t' := s.toks) (r.append r2) (by rw [List.length_append]; omega), rfl, q _ I.fresh⟩
end
section
variable {prog : Program} {w : World} {A : Around} {E : Value → Shared → Prop} {s : Shared}
theorem bounds_run {a c n : Nat} (hac : a ≤ c) (hc : c ≤ n) : sliceBounds (some (a : Int)) (some (c : Int)) none n = ((a : Int), (c : Int), 1) := by
  simp only [sliceBounds, Option.getD_none]
  have h1 : ¬ ((a : Int) < 0) := by omega
  have h2 : ¬ ((c : Int) < 0) := by omega
  simp only [h1, h2, if_false, show (1 : Int) > 0 by decide, if_true]
  congr 1
  · omega
  · congr 1; omega
set_option maxRecDepth 100000 in
theorem setItem_slice {l b sl : Addr} {items new : Array Value} {n n2 : Nat} {vl vu : Value} {a c : Nat} {Q : Unit → Shared → Prop}
    (e : s.heap.get? l = some { cls := .type "list", data := .seq items n }) (e2 : s.heap.get? b = some { cls := .type "list", data := .seq new n2 }) (hne : l ≠ b)
    (hs : s.heap.IsSliceOf sl vl vu .none) (pl : IsPart vl (some (a : Int))) (pu : IsPart vu (some (c : Int))) (hac : a ≤ c) (hc : c ≤ items.size)
    (hsz : items.size + new.size ≤ sizeLine) (h : Q () { s with heap := s.heap.update l (Obj.mapSeq fun xs => xs.extract 0 a ++ new ++ xs.extract c xs.size) }) :
    wpAny (model prog w) A (setItem (.ref l) (.ref sl) (.ref b)) Q E s := by
  have hl : s.heap.IsList l items := PySem.IsL.isList e
  have hb : s.heap.IsList b new := PySem.IsL.isList e2
  obtain ⟨os, hos, hcs, hds⟩ := id hs
  have hTs : s.TypeIs (.ref sl) "slice" := ⟨os, hos, hcs⟩
  have hstep : ¬ ((rawPart none == rawInt 0) = true) := Bool.false_ne_true
  have hsame : Builtin.List.listSameRef (.ref l) (.ref b) = false := by
    unfold Builtin.List.listSameRef
    exact beq_eq_false_iff_ne.mpr hne
  have hmax : (max (a : Int) (c : Int)).toNat = c := by omega
  have hz' : ((fun xs : Array Value => xs.extract 0 a ++ new ++ xs.extract c xs.size) items).size ≤ sizeLine + 1 := by
    simp only [Array.size_append, Array.size_extract]
    omega
  unfold setItem
  try with_reducible refine wpAny_holding ?_
  first | refine wpAny_bind (wpAny_pure ?_) | skip
  refine wpAny_bind (wpAny_sequenceKey hl.typeIs (by decide) ?_)
  refine wpAny_bind (wpAny_callSpecial?_slot (name := Str.ofString "__setitem__") hl.typeIs slot_list_setitem
    (wpAny_call_entry slot_list_setitem hl.typeIs entry_list_setitem ?_ (args_list_setitem _ _ _)))
  show wpAny _ _ (Builtin.List.listSubscript? (.ref sl) >>= _) _ _ s
  refine wpAny_bind ?_
  unfold Builtin.List.listSubscript?
  refine wpAny_bind (wpAny_specialOf hTs slice_no_index ?_)
  simp only [Option.isNone_none, if_true]
  refine wpAny_pure ?_
  show wpAny _ _ (typeOf (.ref sl) >>= _) _ _ s
  refine wpAny_bind (wpAny_typeOf hTs ?_)
  first
    | rw [if_neg (by decide)]
    | refine PySem.W.KFB.if_not (by decide) ?_
  rw [listSliceParts_eq]
  refine wpAny_bind (wpAny_bind (wpAny_field hos hds (x := .none) rfl (wpAny_bind (wpAny_listPart .none ?_))))
  rw [if_neg hstep]
  refine wpAny_bind (wpAny_field hos hds (x := vl) rfl (wpAny_bind (wpAny_listPart pl ?_)))
  refine wpAny_bind (wpAny_field hos hds (x := vu) rfl (wpAny_bind (wpAny_listPart pu (wpAny_pure ?_))))
  first
    | simp only [hsame, Bool.false_eq_true, if_false]
    | refine PySem.W.KFB.if_not hsame ?_
    | (dsimp only
       rw [if_neg (by rw [hsame]; exact Bool.false_ne_true)])
  refine wpAny_bind (m := Builtin.List.listAllItems (.ref b) "must assign iterable to extended slice") ?_
  unfold Builtin.List.listAllItems
  refine wpAny_bind (wpAny_typeOf hb.typeIs ?_)
  first
    | refine PySem.W.KFB.if_so (by decide) ?_
    | rw [if_pos (by decide)]
    | simp only [beq_self_eq_true, Bool.true_or, if_true]
  unfold Builtin.List.listItems
  refine wpAny_bind (wpAny_seqItems e2 rfl (wpAny_pure ?_))
  refine wpAny_bind (wpAny_bind (wpAny_seqItems e rfl (wpAny_pure ?_)))
  refine wpAny_bind (wpAny_of_eq ((sliceIndices_raw (some (a : Int)) (some (c : Int)) none items.size (by simp)).trans (congrArg (pure : Int × Int × Int → Sem (Int × Int × Int)) (bounds_run hac hc))) ?_)
  show wpAny _ _ (if ((1 : Int) == 1) = true then _ else _) _ _ s
  rw [if_pos (by decide)]
  refine wpAny_bind (wpAny_rule ?_)
  first
    | simp only [notLongL hsz, Bool.false_eq_true, if_false]
    | refine PySem.W.KFB.if_not (notLongL hsz) ?_
  first | refine wpAny_bind (wpAny_pure ?_) | skip
  show wpAny _ _ (updateSeq l (fun xs => xs.extract 0 ((a : Int)).toNat ++ new ++ xs.extract (max (a : Int) (c : Int)).toNat xs.size) >>= _) _ _ s
  rw [hmax, Int.toNat_natCast]
  refine wpAny_bind (wpAny_updateSeq (hz := Nat.le_trans (Nat.le_add_right _ _) hsz) (_hz' := hz') e rfl ?_)
  refine wpAny_bind (wpAny_letGo ?_)
  first
    | exact wpAny_bind (wpAny_pure (wpAny_pure ⟨.none, rfl, wpAny_pure h⟩))
    | exact wpAny_pure ⟨.none, rfl, wpAny_pure h⟩
end

section
variable {X : Cx}
end
end L2

namespace Att
open PySem PySem.W PySem.Calls PyProof.Rows
theorem ints_of_wellAll {P : Params} {h : Heap} : ∀ (ns : List Int) (vs : List Value), WellAll P h vs (ns.map WData.int) → IntsAre vs ns := by
  intro ns
  induction ns with
  | nil =>
    intro vs w
    rw [List.map_nil] at w
    cases w
    exact .nil
  | cons n ns ih =>
    intro vs w
    rw [List.map_cons] at w
    cases w with
    | cons a b =>
      cases a
      exact .cons _ _ (ih _ b)

theorem script_of {l : OpenLaw} {n : Nat} (hn : l.most = some n) {P : Params} {h : Heap} {args : List WData} {vals : List Value}
    (hpre : l.row.toRowW.claim.pre args = true) (hwl : WellAll P h vals args) :
    ∃ a vs ns, vals = [Value.ref a] ∧ args = [WData.list (ns.map WData.int)] ∧ h.get? a = some { cls := .type "list", data := .seq vs.toArray } ∧ IntsAre vs ns ∧ ns.length ≤ n := by
  have hsh : WShape.hasAll [] args [.list .int] = true := (pre_splitW hpre).1
  have hc : l.pre.holds [] { args := args } = true := (pre_splitW hpre).2
  obtain ⟨d, r, rfl, h1, h2⟩ := hasAllW_cons hsh
  obtain rfl := hasAllW_nil h2
  obtain ⟨xs, rfl, h3⟩ := hasW_list h1
  obtain ⟨ns, rfl⟩ := items_int h3
  have hlen : ns.length ≤ n := by
    unfold OpenLaw.pre at hc
    have h4 : (WTm.not (.lt (.lit (.int (n : Int))) (.len (.arg 0)))).holds [] { args := [.list (ns.map .int)] } = true := by
      have h4 := (holds_andW hc).1
      rw [hn] at h4
      exact h4
    have h5 := condW_of h4 (w_not (w_lt w_lit (w_len_list (w_arg rfl))))
    rw [List.length_map] at h5
    refine Nat.le_of_not_lt fun q => ?_
    have q' : (n : Int) < ((ns.length : Nat) : Int) := by omega
    first
      | (rw [decide_eq_true q'] at h5; exact absurd h5 (by decide))
      | (simp at h5; omega)
  cases hwl with
  | cons w1 w2 =>
    cases w2
    cases w1 with
    | list ho hall => exact ⟨_, _, ns, rfl, rfl, ho, ints_of_wellAll ns _ hall, hlen⟩

theorem post_true (l : OpenLaw) (args : List WData) : l.row.toRowW.claim.post args (.bool true) args = true :=
  postW_of (r := l.row.toRowW) (X := (true == true))
    (show WShape.has [] (.bool true) .bool = true by first | rfl | decide | simp [WShape.has, WShape.arms, WShape.armsAll])
    (show (WTm.eq .res (.lit (.bool true))).value [] { args := args, res := some (.bool true), after := args } = some (.bool (true == true)) from w_eq_bool (w_res rfl) w_lit) rfl
theorem attach_call {l : OpenLaw} {n : Nat} {q : Program} {loose : List Str} {XP : (Str → Option Value) → Heap → Prop} {YP : World → Heap → Prop} {d : DefRec}
    (hn : l.most = some n) (hdf : d.params.defaults = [])
    (call : ∀ (w : World) (s₀ s₁ : Shared) (mg mb : Str → Option Value) (fa : Addr) (o : Obj) (pm cd doc : Value) (a : Addr) (vs : List Value) (ns : List Int),
      Ground q loose [] XP w s₀ mg mb s₁.heap → YP w s₁.heap →
      s₁.heap.get? fa = some o → o.data = .func (docDef d.name d.params d.body d.scope pm cd doc) → s₁.heap.CodeRec cd d.name → mg d.name = some (.ref fa) →
      s₁.heap.get? a = some { cls := .type "list", data := .seq vs.toArray } → IntsAre vs ns → ns.length ≤ n → s₁.gens = #[] →
      codeAny (model l.prog w) callerA (.call (.ref fa) ⟨[.ref a], []⟩) (fun r s' => r = .ok (.ret (.bool true)) ∧ OldK s₁.heap s'.heap ∧ s'.os = s₁.os ∧ AllBare s'.gens) s₁) :
    WalkO q loose XP YP l.row.toRowW d [] (fun f vs => PySem.call f vs) := by
  intro w s₀ s₁ mg mb G Y fa o pm cd doc dV kV ho hd hcd hD hmg hg args vals as hpre hlay hrd hwl hlo
  obtain rfl : dV = .none := Dflts.none hD hdf
  obtain rfl : kV = .none := Dflts.noKw hD
  obtain ⟨a, vs, ns, rfl, rfl, hobj, hints, hlen⟩ := script_of hn hpre hwl
  refine enter_call (codeAny_mono (call w s₀ s₁ mg mb fa o pm cd doc a vs ns G Y ho (fd_plain hd) hcd hmg hobj hints hlen hg) fun r s' hq => ?_)
  obtain ⟨rfl, h2, h3, h4⟩ := hq
  exact ⟨.inl ⟨.bool true, .bool true, [], rfl, fun _ => rfl, .bool true, post_true l _, fun _ => ⟨List.Pairwise.nil, fun _ hm => (nomatch hm)⟩⟩, h2, h3, h4⟩
section
variable {prog : Program} {w : World} {A : Around} {E : Value → Shared → Prop} {s : Shared} {K : Frag}
end
end Att

namespace L2
open PySem PySem.Spec PyProof.Rows

theorem vals_ints : ∀ {vs : List Value} {ns : List Int}, IntsAre vs ns → Vals (ns.map V.int) vs
  | _, _, .nil => .nil
  | _, _, .cons n t h => .cons ⟨t, rfl⟩ (vals_ints h)
def Only (H : Hp) : Prop := ∀ b, H b = none ∨ ∃ o xs, H b = some (.frz o (.lst xs))
theorem law_call {P : Program} {w : World} {K : PySem.W.Frag} {mg mb : Str → Option Value} {CX : CXT} {k : Nat} {fa a : Addr} {fd : FuncData} {x : Str} {sp : Sp} {s₁ : Shared} {vs : List Value} {ns : List Int}
    (KX : K.In s₁.heap) (hns : s₁.heap.Ns mainGlobals mg) (hb : s₁.heap.Ns builtinsNs mb) (hbb : ∀ x : Str, x ≠ "__name__" → mb x = bootBuiltins x) (hlim : s₁.heap.NoLimit) (hg : s₁.gens = #[])
    (ha : s₁.heap.get? a = some { cls := .type "list", data := .seq vs.toArray }) (hi : IntsAre vs ns) (hl : ns.length ≤ sizeLine) (hr : Room k callerA)
    (F : ∀ base : Heap, K.In base → base.Ns mainGlobals mg → FnOk P w K mg base CX k fa fd [x] sp) (hbind : ∀ (s : Shared) (u : Value), BindsTo s fd ⟨[u], []⟩ [(x, u)])
    (hsp : ∀ H : Hp, Only H → SqL K H a (ns.map V.int) → sp [.ref a] H (fun v _ => v = .bl true) fun _ _ _ => False)
    (hCX : ∀ H e s', CX [] H s₁ (fun _ _ _ => False) e s' → False) :
    codeAny (model P w) callerA (.call (.ref fa) ⟨[.ref a], []⟩) (fun r s' => r = .ok (.ret (.bool true)) ∧ OldK s₁.heap s'.heap ∧ s'.os = s₁.os ∧ AllBare s'.gens) s₁ := by
  have rv := vals_ints hi
  have lenV := hi.length
  -- from an abstract heap in which nothing but the script may be tracked
  have core : ∀ H : Hp, Only H → SqL K H a (ns.map V.int) → HOk P w H s₁.heap → (∀ b, H b ≠ none → b = a) → (H a ≠ none → K.lookup a = none) →
      codeAny (model P w) callerA (.call (.ref fa) ⟨[.ref a], []⟩) (fun r s' => r = .ok (.ret (.bool true)) ∧ OldK s₁.heap s'.heap ∧ s'.os = s₁.os ∧ AllBare s'.gens) s₁ := by
    intro H hO hS hok hA hK
    have base_of : ∀ {b : Addr} {o : Obj}, s₁.heap.get? b = some o → H b = none → (hidT s₁.heap H).get? b = some o := fun e n => hidT_get e n
    have noA : ∀ {b : Addr} {o : Obj} {es : Array DictEntry} {ep : Nat}, s₁.heap.get? b = some o → o.data = .dict es ep → H b = none := fun {b o es ep} e d => by
      cases q : H b with
      | none => rfl
      | some u =>
        have e' : b = a := hA b (by rw [q]; simp)
        subst e'
        rw [ha] at e; cases e
        have d' : Data.seq vs.toArray _ = Data.dict es ep := d
        cases d'
    have nsK : ∀ {b : Addr} {m : Str → Option Value}, s₁.heap.Ns b m → (hidT s₁.heap H).Ns b m := fun {b m} ⟨o, es, ep, e, d, r⟩ => ⟨o, es, ep, base_of e (noA e d), d, r⟩
    have hKb : K.In (hidT s₁.heap H) := fun b o e => base_of (KX b o e) (by
      cases q : H b with
      | none => rfl
      | some u =>
        have e' : b = a := hA b (by rw [q]; simp)
        subst e'
        rw [hK (by rw [q]; simp)] at e; cases e)
    have hM : Mod K mg (hidT s₁.heap H) := ⟨hKb, nsK hns, ⟨mb, nsK hb, hbb⟩, let ⟨mc, h1, h2⟩ := hlim; ⟨mc, nsK h1, h2⟩⟩
    have e0 : Env0 P w K mg (hidT s₁.heap H) callerA [] s₁ H := ⟨rfl, hM, fun b o e => of_hidT e, Nat.le_of_eq (hidT_size _ _), trivial, fun b hb => absurd (show b ∈ ([] : List Addr) from hb) (by simp), hok, .of_eq hg⟩
    refine codeAny_mono ((F _ hKb (nsK hns)).run callerA [] s₁ H ⟨[.ref a], []⟩ [.ref a] [.ref a] _ _ hr e0 (hbind s₁ (.ref a)) (.cons rfl .nil) (hsp H hO hS)) fun r s' h => ?_
    cases r with
    | error e => exact (hCX H e s' h).elim
    | ok fl =>
      cases fl with
      | next => exact False.elim h
      | brk => exact False.elim h
      | cont => exact False.elim h
      | ret u =>
        obtain ⟨v, H', os, bare, un, hok', r', q⟩ := h
        have q' : v = .bl true := q
        subst q'
        obtain rfl : u = Value.bool true := r'
        refine ⟨rfl, OldK.of_keep fun b o e => ?_, os, bare⟩
        cases q : H b with
        | none => exact un.keep b o e q (by intro z; exact absurd (show b ∈ ([] : List Addr) from z) (by simp)) (by simp)
        | some u =>
          rcases hO b with z | ⟨ob, xs, z⟩
          · rw [q] at z; cases z
          · have z2 := un.frzs b ob _ z
            obtain ⟨e1, _⟩ := hok b _ z
            obtain ⟨e2, _⟩ := hok' b _ z2
            rw [e] at e1; cases e1
            exact e2
  cases hk : K.lookup a with
  | some o =>
    -- the script is one of the module's own objects
    have e := KX a o hk
    rw [ha] at e
    cases e
    refine core (fun _ => none) (fun _ => .inl rfl) (.inr ⟨_, vs.toArray, _, hk, rfl, rfl, rfl, by rw [List.size_toArray, lenV]; exact hl, by simpa using rv⟩) (fun b u z => by have z' : (none : Option HO) = some u := z; cases z') (fun b z => absurd rfl z) fun z => absurd rfl z
  | none =>
    refine core (fun b => if b = a then some (.frz { cls := .type "list", data := .seq vs.toArray } (.lst (ns.map V.int))) else none) (fun b => ?_) (.inl (.inr ⟨{ cls := .type "list", data := .seq vs.toArray }, if_pos rfl⟩)) (fun b u z => ?_) (fun b z => ?_) fun _ => hk
    · by_cases hb : b = a
      · exact .inr ⟨_, _, if_pos hb⟩
      · exact .inl (if_neg hb)
    · by_cases hb : b = a
      · have z' := (if_pos hb).symm.trans z
        cases z'
        subst hb
        exact ⟨ha, by rw [List.length_map]; exact hl, vs, _, rv, ha⟩
      · have z' := (if_neg hb).symm.trans z
        cases z'
    · by_cases hb : b = a
      · exact hb
      · exact absurd (if_neg hb) z
end L2

namespace L2
open PySem PySem.Spec PyProof.Rows

abbrev KOf {K : PySem.W.Frag} {h : Heap} (_ : K.In h) : PySem.W.Frag := K
theorem walk_of {l : PySem.W.OpenLaw} {n k : Nat} {q : Program} {loose : List Str} {XP : (Str → Option Value) → Heap → Prop} {YP : World → Heap → Prop} {d : DefRec} {K : Params → PySem.W.Frag} {CX : World → CXT} {sp : World → Sp} {x : Str}
    (hn : l.most = some n) (hn2 : n ≤ sizeLine) (hdf : d.params.defaults = []) (hr : Room k callerA)
    (hY : ∀ (w : World) (h : Heap), YP w h → (K w.params).In h)
    (F : ∀ (w : World) (mg : Str → Option Value) (fa : Addr) (h : Heap), (K w.params).In h → h.Ns mainGlobals mg → mg d.name = some (.ref fa) →
      ∃ fd : FuncData, (∀ (s : Shared) (u : Value), BindsTo s fd ⟨[u], []⟩ [(x, u)]) ∧
        ∀ base : Heap, (K w.params).In base → base.Ns mainGlobals mg → FnOk l.prog w (K w.params) mg base (CX w) k fa fd [x] (sp w))
    (hsp : ∀ (w : World) (H : Hp) (a : Addr) (ns : List Int), ns.length ≤ n → Only H → SqL (K w.params) H a (ns.map V.int) → sp w [.ref a] H (fun v _ => v = .bl true) fun _ _ _ => False)
    (hCX : ∀ (w : World) (H : Hp) (s : Shared) (e : Value) (s' : Shared), CX w [] H s (fun _ _ _ => False) e s' → False) :
    PySem.W.WalkO q loose XP YP l.row.toRowW d [] (fun f vs => PySem.call f vs) := by
  refine Att.attach_call hn hdf fun w s₀ s₁ mg mb fa o pm cd doc a vs ns G Y ho hd hcd hmg hobj hints hlen hg => ?_
  have KX := hY w _ Y
  obtain ⟨fd, hb, hF⟩ := F w mg fa _ KX G.T.g hmg
  exact law_call KX G.T.g G.T.b G.T.builtins G.T.nolimit hg hobj hints (Nat.le_trans hlen hn2) hr hF hb (fun H hO hS => hsp w H a ns hlen hO hS) fun H e s' => hCX w H s₁ e s'
end L2

/- THE LAST THEOREM (shape; LID, My.* are yours):
   My.Adr: a structure of the addresses that your layer names (classes, functions); My.Txt K t: a structure (Prop) of the equations over K;
   My.txt_mk : {K} {implicit addresses ..} (e1 : nsIn K mainGlobals "law" = some (some (.ref f))) (e2 : K.lookup f = some ⟨oc, od, .func (fnOf "law" "law" params body scope dV kV doc pm an cdv ct), sl⟩) (e3 : codeIn K cdv "law" = true) .. : ∃ t, My.Txt K t

set_option maxRecDepth 100000 in
set_option maxHeartbeats 0 in
theorem PySem.Challenge.cw_LID_holds : PySem.Challenge.rw_LID.Holds := by
  w_on; o_law; k_head; (case hw => w_witness2)
  k_fill
  refine L2.walk_of (l := PySem.Challenge.rw_LID) (n := 63) (k := 40) (x := "script") (CX := fun w => ..) (sp := fun _ => My.sp_law) rfl (by decide) rfl ⟨rfl, by decide, by decide⟩ (fun w h Y => PySem.W.kIn_of Y) ?F ?S ?C
  case F =>
    intro w mg fa h KX G hmg
    have T : ∃ t, My.Txt (L2.KOf KX) t := by
      dsimp only [L2.KOf]                          -- K must stand as «<heap const> w.params» for k_is
      refine' My.txt_mk ?e1 ?e2 ?e3 ..
      (case e1 => PySem.W.k_is)                    -- in the order: a name -> its address -> its object -> its parts
      (case e2 => PySem.W.k_is)
      ..
    obtain ⟨t, T⟩ := T
    have e0 := hmg.symm.trans (PySem.W.mg_of KX G T.law)
    cases e0                                       -- fa is the law's own address
    exact ⟨_, fun s u => .of_eq rfl, fun base kb nb => My.law_fn T kb nb⟩     -- if «.of_eq rfl» comes too early: refine' ⟨_, ?b, fun base kb nb => My.law_fn T kb nb⟩; exact fun s u => .of_eq rfl
  case S => exact fun w H a ns hl hO hS => ..
  case C => exact ..
(the tactic k_is has no namespace: write k_is) -/
namespace L2
open PySem PySem.Spec PyProof.Rows
def inClass (s : Stmt) (j : Nat) : Stmt := match s with
  | .ClassDef _ _ _ body _ _ _ _ _ _ _ => body.getD j (.Pass ⟨0, 0, 0, 0⟩)
  | _ => .Pass ⟨0, 0, 0, 0⟩
def defArgs (s : Stmt) : Arguments := match s with
  | .FunctionDef _ a _ _ _ _ _ _ _ _ => a
  | _ => { posonlyargs := [], args := [], vararg := none, kwonlyargs := [], kw_defaults := [], kwarg := none, defaults := [] }
def defBody (s : Stmt) : List Stmt := match s with
  | .FunctionDef _ _ b _ _ _ _ _ _ _ => b
  | _ => []
def defScope (s : Stmt) : Scope := match s with
  | .FunctionDef _ _ _ _ _ _ sc _ _ _ => sc
  | _ => { kind := .function, names := [], isGenerator := false, isCoroutine := false }
abbrev CX0 : CXT := fun _ _ _ _ _ _ => False
abbrev E0 : XK := fun _ _ _ => False
theorem pass0 {X : Cx} : Passes CX0 X E0 := fun _ _ _ _ _ _ _ h => h.elim
structure Fun (K : PySem.W.Frag) (x qual : Str) (st : Stmt) (f : Addr) (fd : FuncData) : Prop where
  ex : ∃ (oc : Value) (od : Option Addr) (kV doc pm : Value) (an : Option Addr) (cdv ct : Value) (osl : Array (Option Value)),
    fd = PySem.W.fnOf x qual (defArgs st) (defBody st) (defScope st) .none kV doc pm an cdv ct ∧ K.lookup f = some ⟨oc, od, .func fd, osl⟩ ∧ PySem.W.codeIn K cdv qual = true
  kp : PySem.W.keepIn K (.ref f) = true
section
variable {P : Program} {w : World} {K : PySem.W.Frag} {mg : Str → Option Value} {base : Heap}
theorem Fun.ok {x qual : Str} {st : Stmt} {f : Addr} {fd : FuncData} {N ps : List Str} {k : Nat} {sp : Sp} (F : Fun K x qual st f fd) (S : FnScope N ps (defScope st)) (len : ∀ vs H Q E, sp vs H Q E → vs.length = ps.length)
    (hbody : ∀ (cdv : Value) (A : Around) (outer : List Env) (s : Shared) (H : Hp) (vs : List V) (Q : VK) (E : XK), Room k (A.deeper (envOfC qual (defScope st) s.heap.objs.size f cdv)) → sp vs H Q E →
      ∃ t, PSs (cxOf CX0 P w K mg base N qual (defScope st) f cdv A outer s H E).nox (defBody st) t ∧ t { nx := fun _ H' => Q .non H', rt := Q } (start N vs) H) : FnOk P w K mg base CX0 (k + 1) f fd ps sp := by
  obtain ⟨oc, od, kV, doc, pm, an, cdv, ct, osl, rfl, lk, hcd⟩ := F.ex
  refine fn_of lk hcd S len fun A outer s H vs Q E hr hsp => ?_
  obtain ⟨t, h, q⟩ := hbody cdv A outer s H vs Q E hr hsp
  exact ⟨t, h.nox, q⟩
theorem Fun.binds {x qual : Str} {st : Stmt} {f : Addr} {fd : FuncData} {ps : List Str} (F : Fun K x qual st f fd)
    (h : ∀ (kV doc pm : Value) (an : Option Addr) (cdv ct : Value) (us : List Value), us.length = ps.length → bindArgs (PySem.W.fnOf x qual (defArgs st) (defBody st) (defScope st) .none kV doc pm an cdv ct) ⟨us, []⟩ = pure (ps.zip us)) : Binds K fd ps [] := by
  obtain ⟨oc, od, kV, doc, pm, an, cdv, ct, osl, rfl, lk, hcd⟩ := F.ex
  exact .all (h kV doc pm an cdv ct)
theorem fun_mk {x qual : Str} {st : Stmt} {f : Addr} {oc : Value} {od an : Option Addr} {osl : Array (Option Value)} {kV doc pm cdv ct : Value} (l : K.lookup f = some ⟨oc, od, .func (PySem.W.fnOf x qual (defArgs st) (defBody st) (defScope st) .none kV doc pm an cdv ct), osl⟩)
    (c : PySem.W.codeIn K cdv qual = true) (k : PySem.W.keepIn K (.ref f) = true) : Fun K x qual st f (PySem.W.fnOf x qual (defArgs st) (defBody st) (defScope st) .none kV doc pm an cdv ct) := ⟨⟨oc, od, kV, doc, pm, an, cdv, ct, osl, rfl, l, c⟩, k⟩
end
theorem hu_of {A : Around} {k : Nat} (hr : Room k A) : A.units + 1 < cLine := Nat.lt_of_le_of_lt (Nat.add_le_add_left (by decide : 1 ≤ 64) _) hr.units
section
variable {X : Cx}
theorem pv (i : Nat) {x : Str} {pos : Pos} (hN : X.N[i]? = some x := by rfl) (hv : Vis X.env.scope x := by first | exact Or.inl rfl | exact Or.inr (Or.inl rfl) | exact Or.inr (Or.inr rfl)) (hd : (x == ("__debug__" : Str)) = false := by decide)
    (hcd : (x == ("__classdict__" : Str)) = false := by decide) : PE X (.Name x pos) (tVar i) := pe_var hN hv hd hcd
end
theorem iteF {A B : Prop} (h : B) : if false = true then A else B := by
  rw [if_neg Bool.false_ne_true]
  exact h
theorem iteT {A B : Prop} (h : A) : if true = true then A else B := by
  rw [if_pos rfl]
  exact h
theorem ite2 {c A B : Prop} [Decidable c] (h1 : c → A) (h2 : ¬ c → B) : if c then A else B := by
  by_cases h : c
  · rw [if_pos h]
    exact h1 h
  · rw [if_neg h]
    exact h2 h
def Same (H H' : Hp) : Prop := ∀ b o, H b = some o → H' b = some o
theorem Same.refl (H : Hp) : Same H H := fun _ _ h => h
theorem Same.trans {H H1 H2 : Hp} (a : Same H H1) (b : Same H1 H2) : Same H H2 := fun c o h => b c o (a c o h)
theorem Same.free {H H' : Hp} (e : Same H H') {l : Addr} (h : H' l = Option.none) : H l = Option.none := by
  cases q : H l with
  | none => rfl
  | some o =>
    rw [e l o q] at h
    cases h
theorem Same.seq {K : PySem.W.Frag} {H H' : Hp} {a : Addr} {xs : List V} (e : Same H H') (h : SqL K H a xs) : SqL K H' a xs := by
  rcases h with (h | ⟨o, h⟩) | h
  · exact .inl (.inl (e _ _ h))
  · exact .inl (.inr ⟨o, e _ _ h⟩)
  · exact .inr h

end L2

set_option Elab.async false
set_option linter.all false
set_option maxRecDepth 100000
set_option maxHeartbeats 4000000
namespace L2
open PySem PySem.Spec PyProof.Rows
def closOf (env : Env) : List (Str × NameKind) → List (Str × Addr) → List (Str × Addr)
  | [], cs => cs
  | (n, k) :: r, cs => closOf env r (if k == .free then (n, (env.cells.lookup n).getD 0) :: cs else cs)
theorem closureFor_eq {scope : Scope} {env : Env} (h : ∀ n, (n, NameKind.free) ∈ scope.names → ∃ c, env.cells.lookup n = some c) :
    closureFor scope env = pure (closOf env scope.names []) := by
  simp only [closureFor]
  have key : ∀ (l : List (Str × NameKind)) (cs : List (Str × Addr)), (∀ n, (n, NameKind.free) ∈ l → ∃ c, env.cells.lookup n = some c) →
      (forIn l cs (fun x r => if (x.2 == NameKind.free) = true then (cellOf env x.1 >>= fun a => pure (ForInStep.yield ((x.1, a) :: r))) else pure (ForInStep.yield r)) : Sem (List (Str × Addr))) = pure (closOf env l cs) := by
    intro l
    induction l with
    | nil => intro cs _; rfl
    | cons x l ih =>
      intro cs hl
      obtain ⟨n, k⟩ := x
      have hl' : ∀ n, (n, NameKind.free) ∈ l → ∃ c, env.cells.lookup n = some c := fun n hn => hl n (List.mem_cons_of_mem _ hn)
      rw [List.forIn_cons]
      by_cases hk : k = .free
      · subst hk
        obtain ⟨c, hc⟩ := hl n List.mem_cons_self
        have e1 : cellOf env n = pure c := by unfold cellOf; rw [hc]
        simp only [beq_self_eq_true, if_true, e1, pure_bind]
        rw [ih _ hl']
        simp only [closOf, beq_self_eq_true, if_true, hc, Option.getD_some]
      · have hb : (k == NameKind.free) = false := by simpa using hk
        simp only [hb, Bool.false_eq_true, if_false, pure_bind]
        rw [ih _ hl']
        simp only [closOf, hb, Bool.false_eq_true, if_false]
  exact (congrArg (fun z => z >>= fun r => pure r) (key scope.names [] h)).trans rfl
theorem closOf_sub {env : Env} : ∀ (l : List (Str × NameKind)) (cs : List (Str × Addr)), (∀ n, (n, NameKind.free) ∈ l → ∃ c, env.cells.lookup n = some c) → (∀ x c, cs.lookup x = some c → env.cells.lookup x = some c) →
    ∀ x c, (closOf env l cs).lookup x = some c → env.cells.lookup x = some c
  | [], cs, _, h, x, c, e => h x c e
  | (n, k) :: r, cs, hl, h, x, c, e => by
    refine closOf_sub r _ (fun n hn => hl n (List.mem_cons_of_mem _ hn)) ?_ x c e
    intro y d hy
    by_cases hk : (k == NameKind.free) = true
    · rw [if_pos hk] at hy
      have hk' : k = .free := by simpa using hk
      subst hk'
      obtain ⟨c', hc'⟩ := hl n List.mem_cons_self
      rw [hc', Option.getD_some, List.lookup_cons] at hy
      cases hyn : y == n with
      | true =>
        rw [hyn] at hy
        have : y = n := by simpa using hyn
        subst this
        rw [hc']; exact hy
      | false => rw [hyn] at hy; exact h y d hy
    · rw [if_neg hk] at hy; exact h y d hy
theorem closOf_some {env : Env} : ∀ (l : List (Str × NameKind)) (cs : List (Str × Addr)) (x : Str), ((x, NameKind.free) ∈ l ∨ ∃ c, cs.lookup x = some c) → ∃ c, (closOf env l cs).lookup x = some c
  | [], cs, x, h => by
    rcases h with h | h
    · cases h
    · exact h
  | (n, k) :: r, cs, x, h => by
    refine closOf_some r _ x ?_
    rcases h with h | ⟨c, h⟩
    · rcases List.mem_cons.mp h with e | h
      · cases e
        refine .inr ⟨(env.cells.lookup n).getD 0, ?_⟩
        simp [List.lookup_cons]
      · exact .inl h
    · right
      by_cases hk : (k == NameKind.free) = true
      · rw [if_pos hk, List.lookup_cons]
        cases x == n with
        | true => exact ⟨_, rfl⟩
        | false => exact ⟨c, h⟩
      · rw [if_neg hk]; exact ⟨c, h⟩
theorem lookup_relabel {env : Env} (x : Str) : ∀ (names : List (Str × NameKind)),
    (names.map fun (n, k) => if (k == NameKind.free && env.scope.kind == .function && env.kindOf n == some .cell) then (n, NameKind.cell) else (n, k)).lookup x =
      (names.lookup x).map fun k => if (k == NameKind.free && env.scope.kind == .function && env.kindOf x == some .cell) then NameKind.cell else k
  | [] => rfl
  | (n, k) :: r => by
    have ih := lookup_relabel (env := env) x r
    show List.lookup x ((if (k == NameKind.free && env.scope.kind == .function && env.kindOf n == some .cell) = true then (n, NameKind.cell) else (n, k)) :: _) = _
    cases hx : x == n with
    | true =>
      have e : x = n := by simpa using hx
      subst e
      by_cases hc : (k == NameKind.free && env.scope.kind == .function && env.kindOf x == some .cell) = true
      · rw [if_pos hc]; simp only [List.lookup_cons, beq_self_eq_true, Option.map_some, if_pos hc]
      · rw [if_neg hc]; simp only [List.lookup_cons, beq_self_eq_true, Option.map_some, if_neg hc]
    | false =>
      by_cases hc : (k == NameKind.free && env.scope.kind == .function && env.kindOf n == some .cell) = true
      · rw [if_pos hc]; simp only [List.lookup_cons, hx]; exact ih
      · rw [if_neg hc]; simp only [List.lookup_cons, hx]; exact ih

structure CompScope (XN : List Str) (xsc : Scope) (N : List Str) (nv : Nat) (js : List Nat) (scope : Scope) : Prop where
  kind : scope.kind = .function
  cell : ∀ y ∈ scope.names, y.2 ≠ .cell
  loc : ∀ y ∈ scope.names, y.2 = .local → scope.names.lookup y.1 = some .local
  free : ∀ y ∈ scope.names, y.2 = .free → (xsc.names.lookup y.1 = some .cell ∨ xsc.names.lookup y.1 = some .free)
  nd : N.Nodup
  len : N.length = nv + js.length
  pl : js.map (fun j => XN[j]?) = (N.drop nv).map some
  fr : ∀ x ∈ N.drop nv, scope.names.lookup x = some .free

abbrev cxComp (X : Cx) (N : List Str) (scope : Scope) (C : Addr) (s : Shared) (H : Hp) (fp : List Addr) : Cx where
  prog := X.prog
  w := X.w
  K := X.K
  mg := X.mg
  base := X.base
  A := X.A
  N := N
  s₀ := s
  H₀ := H
  env := compEnvC scope (closOf X.env scope.names []) C X.env
  outer := X.stack
  stack := X.stack
  ex := fp
  fn := fun _ => false
  calm := X.calm
  pn := []
  xe := fun _ _ => False
def compSt (nv : Nat) (js : List Nat) (σ : St) : St := List.replicate nv none ++ js.map fun j => (σ[j]?).getD none

section
variable {X : Cx} {pins : List (Addr × Obj)} {σ : St} {H : Hp} {s : Shared}
theorem comp_start {N : List Str} {nv : Nat} {js : List Nat} {scope : Scope} {fp : List Addr} {h1 : Heap} {tk : Nat} (I : Inv X pins σ H s) (S : CompScope X.N X.env.scope N nv js scope) (hf : ∀ b ∈ fp, FpOk X pins H b) (hfl : ∀ b ∈ fp, b < s.heap.objs.size)
    (keep : ∀ b o, s.heap.get? b = some o → h1.get? b = some o) (ns : h1.Ns s.heap.objs.size fun _ => none) :
    Inv (cxComp X N scope s.heap.objs.size s H fp) [] (compSt nv js σ) H { s with heap := h1, toks := tk } := by
  have hfr : ∀ n, (n, NameKind.free) ∈ scope.names → ∃ c, X.env.cells.lookup n = some c := fun n hn => I.ok.has n (S.free _ hn rfl)
  have sub : ∀ x c, (closOf X.env scope.names []).lookup x = some c → X.env.cells.lookup x = some c := closOf_sub scope.names [] hfr (fun x c z => by cases z)
  have nocell : ∀ x, scope.names.lookup x ≠ some .cell := fun x z => S.cell _ (PySem.mem_of_lookup z) rfl
  have hasx : ∀ x, (relabel scope X.env).names.lookup x = some .cell ∨ (relabel scope X.env).names.lookup x = some .free → scope.names.lookup x = some .free := by
    intro x hx
    have e := lookup_relabel (env := X.env) x scope.names
    have hx' : (relabel scope X.env).names.lookup x = _ := e
    rw [hx'] at hx
    cases q : scope.names.lookup x with
    | none => rw [q] at hx; rcases hx with hx | hx <;> cases hx
    | some k =>
      rw [q, Option.map_some] at hx
      cases k <;> first | rfl | (exact absurd q (nocell x)) | (exfalso; rcases hx with hx | hx <;> simp at hx)
  refine ⟨⟨I.ok.mod, S.kind, I.ok.glob, I.ok.blt, Nat.le_refl _, fun x y c h1 h2 => I.ok.inj x y c (sub _ _ h1) (sub _ _ h2), fun x hx => ?_, fun x c z => (by cases z), I.ok.hd, I.ok.frames, .inl rfl, fun b hb => ?_, fun b o e => ?_, ?_, fun b o e hb => ?_, fun b hb z => ?_, I.stack, I.stkFree⟩,
    rfl, I.bare, Un.kept keep, ⟨_, ns, fun i x v e1 e2 e3 => ?_⟩, fun x c e => ?_, I.hok.fresh (Nat.le_refl _), fun x c e => I.freeC x c (sub _ _ e), fun p hp => absurd (show p ∈ ([] : List (Addr × Obj)) from hp) (by simp), I.hok.kept keep, ?_⟩
  · exact closOf_some _ _ _ (.inl (PySem.mem_of_lookup (hasx x hx)))
  · obtain ⟨f0, f1, f2, f3, f4, f5⟩ := hf b hb
    exact ⟨Nat.ne_of_lt (hfl b hb), fun x c e => f4 x c (sub x c e)⟩
  · exact I.bs b o e
  · exact Nat.le_trans I.ok.bsz I.sz
  · obtain ⟨f0, f1, f2, f3, f4, f5⟩ := hf b hb
    rcases f3 with z | z
    · exact I.ok.noex b o e z
    · exact absurd (Nat.lt_of_lt_of_le (Heap.lt_size e) (Nat.le_trans I.ok.bsz z)) (Nat.lt_irrefl _)
  · obtain ⟨f0, f1, f2, f3, f4, f5⟩ := hf b hb
    rcases List.mem_cons.mp (I.stkSub b z) with q | q
    · exact f1 q
    · exact f2 q
  · -- a name that the block reads from outside
    have hi : ¬ i < nv := fun hlt => by
      unfold compSt at e2
      rw [List.getElem?_append_left (by simpa using hlt), List.getElem?_replicate, if_pos hlt] at e2
      cases e2
    obtain ⟨k, rfl⟩ : ∃ k, i = nv + k := ⟨i - nv, by omega⟩
    unfold compSt at e2
    rw [List.getElem?_append_right (by simp), List.length_replicate, Nat.add_sub_cancel_left, List.getElem?_map] at e2
    cases hj : js[k]? with
    | none => rw [hj] at e2; cases e2
    | some j =>
      rw [hj, Option.map_some] at e2
      have e2' : (σ[j]?).getD none = some v := Option.some.inj e2
      have hσ : σ[j]? = some (some v) := by
        cases q : σ[j]? with
        | none => rw [q] at e2'; cases e2'
        | some z => rw [q] at e2'; exact congrArg some e2'
      have hd : (N.drop nv)[k]? = some x := by rw [List.getElem?_drop]; exact e1
      have hX : X.N[j]? = some x := by
        have q := congrArg (fun l => l[k]?) S.pl
        simp only [List.getElem?_map, hj, hd, Option.map_some] at q
        exact Option.some.inj q
      have hfx := S.fr x (List.mem_of_getElem? hd)
      have kx := S.free _ (PySem.mem_of_lookup hfx) rfl
      obtain ⟨m, _, hl⟩ := I.loc
      obtain ⟨u, r, l⟩ := hl j x v hX hσ (.inr kx)
      refine ⟨u, r, ?_⟩
      rcases l with ⟨k1, _⟩ | ⟨_, c, hc, hcell⟩
      · exfalso
        have k1' : X.env.scope.names.lookup x = some .local := k1
        rcases kx with z | z <;> (rw [k1'] at z; cases z)
      · obtain ⟨c', hc'⟩ := closOf_some (env := X.env) scope.names [] x (.inl (PySem.mem_of_lookup hfx))
        have e := sub _ _ hc'
        rw [hc] at e; cases e
        refine .inr ⟨?_, c, hc', hcell.keeps keep⟩
        have e := lookup_relabel (env := X.env) x scope.names
        have e' : (relabel scope X.env).names.lookup x = _ := e
        rw [hfx, Option.map_some] at e'
        show (relabel scope X.env).names.lookup x = some .cell ∨ (relabel scope X.env).names.lookup x = some .free
        rw [e']
        split
        · exact .inl rfl
        · exact .inr rfl
  · obtain ⟨v, q⟩ := I.cell x c (sub _ _ e)
    exact ⟨v, q.keeps keep⟩
  · unfold compSt
    show _ = N.length
    rw [List.length_append, List.length_replicate, List.length_map, S.len]
end
end L2

set_option Elab.async false
set_option linter.all false
set_option maxRecDepth 100000
set_option maxHeartbeats 4000000
namespace L2
open PySem PySem.Spec PyProof.Rows
def PIfs (X : Cx) (ifs : List Expr) (t : TT) : Prop :=
  ∀ (pins : List (Addr × Obj)) (s : Shared) (σ : St) (H : Hp) (Q : Bool → Hp → Prop), Inv X pins σ H s → t σ H Q →
    wpAny (model X.prog X.w) X.A (forIn ifs true fun c r => if r = true then do let ok ← isTrue c X.env (eval c X.env); pure (ForInStep.yield ok) else pure (ForInStep.yield r)) (TP X pins σ Q) X.xe s
def tYes : TT := fun _ H Q => Q true H
theorem pif_nil {X : Cx} : PIfs X [] tYes := fun _ _ _ H _ I h => wpAny_tests_nil ⟨H, I, h⟩
theorem pif_one {X : Cx} {c : Expr} {t : TT} (h : PT X c t) : PIfs X [c] t := fun pins s σ H Q I q => wpAny_tests_one (h pins s σ H Q I q)
def CompR (J : It) (g : TG) (tt : TT) (te : TE) (Q : VK) (D : Addr) (τ : St) (H : Hp) : Prop :=
  ∃ W : Nat → Nat → List V → St → Hp → Prop, (∃ m, W 0 m [] τ (upd H D (.lst []))) ∧ ∀ i m ys τ H, W i m ys τ H → H D = some (.lst ys) ∧
    ((J.stop i H ∧ Q (.ref D) H) ∨ (J.go i H ∧ ∃ N : List V → St → Hp → Prop, (∀ zs σ' H', N zs σ' H' → ∃ m', m' < m ∧ W (i + 1) m' zs σ' H') ∧ ∀ x H', J.yld i H x H' → g x τ H' fun τ2 H2 => tt τ2 H2 fun b H3 =>
      if b = true then te τ2 H3 fun y H4 => H4 D = some (.lst ys) ∧ ys.length < sizeLine ∧ N (ys ++ [y]) τ2 (upd H4 D (.lst (ys ++ [y])))
      else N ys τ2 H3))
def tComp (wi : TI) (g : TG) (tt : TT) (te : TE) (nv : Nat) (js : List Nat) : TE := fun σ H Q => wi σ H fun J H1 => ∀ D, H1 D = none → CompR J g tt te Q D (compSt nv js σ) H1

theorem loop_tests {prog : Program} {w : World} {A : Around} {R : Result → Shared → Prop} {s : Shared} {elt target iter : Expr} {ifs : List Expr} {scope : Scope} {pos : Pos} {it acc : Value} {env : Env} (I : Nat → Shared → Prop)
    (turn : ∀ n s, I n s → wpAny (model prog w) A (pyNext it) (fun r s₁ => match r with
      | none => R (.ok .next) s₁
      | some v => wpAny (model prog w) A (letOwnedTupleGo target it v) (fun _ s₁' => wpAny (model prog w) A (assign target env v) (fun _ s₂ =>
          wpAny (model prog w) A (forIn ifs true fun c r => if r = true then do let ok ← isTrue c env (eval c env); pure (ForInStep.yield ok) else pure (ForInStep.yield r)) (fun ok s₃ =>
            if ok = true then wpAny (model prog w) A (eval elt env) (fun x s₄ =>
              wpAny (model prog w) A (call (.builtin "list.append") [acc, x]) (fun _ s₅ => ∃ m, m < n ∧ I m s₅) (fun _ _ => False) s₄) (fun _ _ => False) s₃
            else ∃ m, m < n ∧ I m s₃) (fun _ _ => False) s₂) (fun _ _ => False) s₁') (fun _ _ => False) s₁) (fun _ _ => False) s)
    (n : Nat) (h : I n s) :
    codeAny (model prog w) A (.compLoop (.ListComp elt [⟨target, iter, ifs, 0⟩] scope pos) 0 it acc env) R s := by
  refine codeAny_loop rfl I (fun n s hI => ?_) n h
  show wpAny _ A ((compTurn (.ListComp elt [⟨target, iter, ifs, 0⟩] scope pos) 0 it acc env).onRaise (fun x => do noteFrame x env; theTreesLotGoes x)) _ _ s
  refine wpAny_noted (wpAny_mono (E := fun _ _ => False) ?_ (fun _ _ q => q) fun _ _ q => q.elim)
  rw [compTurn_list]
  refine wpAny_bind (wpAny_standAt (wpAny_bind (wpAny_mono (turn n s hI) (fun r s₁ h₁ => ?_) fun _ _ h' => h')))
  cases r with
  | none => exact wpAny_pure h₁
  | some v =>
    refine wpAny_bind (wpAny_mono h₁ (fun _ s₁' h₁' => ?_) fun _ _ h' => h')
    refine wpAny_bind (wpAny_mono h₁' (fun _ s₂ h₂ => wpAny_bind (wpAny_mono h₂ (fun ok s₃ h₃ => ?_) fun _ _ h' => h')) fun _ _ h' => h')
    cases ok with
    | false => exact wpAny_pure ⟨rfl, h₃⟩
    | true =>
      exact wpAny_bind (wpAny_bind (wpAny_mono h₃ (fun x s₄ h₄ => wpAny_bind (wpAny_mono h₄ (fun _ s₅ h₅ => wpAny_pure (wpAny_pure ⟨rfl, h₅⟩)) fun _ _ h' => h')) fun _ _ h' => h'))

section
variable {X : Cx} {elt tg iter : Expr} {ifs : List Expr} {scope : Scope} {pos : Pos} {N : List Str} {nv : Nat} {js : List Nat} {wi : TI} {g : TG} {tt : TT} {te : TE}

theorem comp_block {pins : List (Addr × Obj)} {σ : St} {H : Hp} {s : Shared} {Q : VK} {it : Addr} {fp : List Addr} {tn : Nat → Heap → Prop} {J : It} {E : Value → Shared → Prop} {RR : Value → Addr → Result → Shared → Prop} (hc : X.calm = true)
    (S : CompScope X.N X.env.scope N nv js scope) (hg : ∀ C s H fp, PG (cxComp X N scope C s H fp) tg g) (ht : ∀ C s H fp, PIfs (cxComp X N scope C s H fp) ifs tt) (he : ∀ C s H fp, PE (cxComp X N scope C s H fp) elt te)
    (I : Inv X pins σ H s) (T : Turn X.prog X.w X.K tg J fp it tn) (st : tn 0 s.heap) (hf : ∀ b ∈ fp, FpOk X pins H b) (hR : ∀ D, H D = none → CompR J g tt te Q D (compSt nv js σ) H)
    (hRR : ∀ D C H' s' m, Inv X pins σ H' s' → FpOk X pins H' C → s'.heap.Ns C m → Q (.ref D) H' → RR (.ref D) C (.ok .next) s') :
    wpAny (model X.prog X.w) X.A (newList []) (fun acc s₃ => wpAny (model X.prog X.w) X.A (newFunctionEnv scope X.env.globals (closOf X.env scope.names []) [] X.env.qual none .none (some X.env)) (fun cenv s₄ =>
      codeAny (model X.prog X.w) X.A (.compStart (.ListComp elt [⟨tg, iter, ifs, 0⟩] scope pos) 0 (.ref it) acc { cenv with scope := relabel scope X.env }) (RR acc cenv.locals) s₄) E s₃) E s := by
  refine wpAny_newObj_type (wpAny_newFunctionEnv S.cell (by intro y hy; simp at hy) (fun h₁ hns₁ hsb₁ => ?_) S.kind)
  have I3 : Inv X pins σ (upd H s.heap.objs.size (.lst [])) { s with heap := s.heap.push { cls := .type "list", data := .seq ([] : List Value).toArray } } := I.lnew (t' := s.toks) (its := []) .nil (Nat.zero_le _)
  have hD := I.fresh
  obtain ⟨W, ⟨m0, w0⟩, turn⟩ := hR s.heap.objs.size hD
  have ho := T.obj 0 s.heap st
  have hfl0 : ∀ b ∈ fp, b < s.heap.objs.size := fun b hb => let ⟨o, e, _⟩ := ho b hb; Heap.lt_size e
  have hf3 : ∀ b ∈ fp, FpOk X pins (upd H s.heap.objs.size (.lst [])) b := fun b hb => ⟨by rw [upd_ne (Nat.ne_of_lt (hfl0 b hb))]; exact (hf b hb).1, (hf b hb).2⟩
  generalize hs3 : ({ s with heap := s.heap.push { cls := .type "list", data := .seq ([] : List Value).toArray } } : Shared) = s3 at I3 hns₁ hsb₁
  have e3 : s3.heap = s.heap.push { cls := .type "list", data := .seq ([] : List Value).toArray } := by rw [← hs3]
  have hfl : ∀ b ∈ fp, b < s3.heap.objs.size := fun b hb => by rw [e3, Heap.size_push]; exact Nat.lt_succ_of_lt (hfl0 b hb)
  have keep : ∀ b o, s3.heap.get? b = some o → h₁.get? b = some o := fun b o e => hsb₁.extBut b o (Nat.ne_of_lt (Heap.lt_size e)) (Heap.get?_push_of_some _ e)
  have J0 := comp_start (tk := s3.toks + ([] : List (Str × Value)).length) I3 S hf3 hfl keep hns₁
  have st1 : tn 0 h₁ := T.keep 0 s.heap h₁ st fun b hb o e => keep b o (by rw [e3]; exact Heap.get?_push_of_some _ e)
  generalize hH3 : upd H s.heap.objs.size (.lst []) = H3 at *
  generalize hY : cxComp X N scope s3.heap.objs.size s3 H3 fp = Y at *
  have sub : ∀ x c, (closOf X.env scope.names []).lookup x = some c → X.env.cells.lookup x = some c :=
    closOf_sub scope.names [] (fun n hn => I.ok.has n (S.free _ hn rfl)) (fun x c z => by cases z)
  have stat : ∀ {H' : Hp}, (∀ b ∈ fp, H' b = none) → ∀ b ∈ fp, FpOk Y [] H' b := fun {H'} hn b hb => by
    subst hY
    obtain ⟨f0, f1, f2, f3, f4, f5⟩ := hf3 b hb
    refine ⟨hn b hb, Nat.ne_of_lt (hfl b hb), fun z => ?_, .inl hb, fun x c e => f4 x c (sub x c e), fun p hp => absurd (show p ∈ ([] : List (Addr × Obj)) from hp) (by simp)⟩
    rcases List.mem_cons.mp (I3.stkSub b z) with q | q
    · exact f1 q
    · exact f2 q
  have eA : Y.A = X.A := by subst hY; rfl
  have eP : Y.prog = X.prog := by subst hY; rfl
  have eW : Y.w = X.w := by subst hY; rfl
  have eK : Y.K = X.K := by subst hY; rfl
  have eC : Y.calm = true := by subst hY; exact hc
  have eE : Y.env = compEnvC scope (closOf X.env scope.names []) s3.heap.objs.size X.env := by subst hY; rfl
  have eXe : Y.xe = fun _ _ => False := by subst hY; rfl
  have hgY : PG Y tg g := by subst hY; exact hg _ _ _ _
  have htY : PIfs Y ifs tt := by subst hY; exact ht _ _ _ _
  have heY : PE Y elt te := by subst hY; exact he _ _ _ _
  have loop : codeAny (model X.prog X.w) X.A (.compLoop (.ListComp elt [⟨tg, iter, ifs, 0⟩] scope pos) 0 (.ref it) (.ref s.heap.objs.size) (compEnvC scope (closOf X.env scope.names []) s3.heap.objs.size X.env))
      (RR (.ref s.heap.objs.size) s3.heap.objs.size) { s3 with heap := h₁, toks := s3.toks + ([] : List (Str × Value)).length } := by
    refine loop_tests (fun n s' => ∃ i ys τ H', Inv Y [] τ H' s' ∧ tn i s'.heap ∧ (∀ b ∈ fp, H' b = none) ∧ W i n ys τ H') ?_ m0 ⟨0, [], _, H3, J0, st1, fun b hb => (hf3 b hb).1, w0⟩
    rintro n s4 ⟨i, ys, τ, H4, I4, st4, fr4, w4⟩
    obtain ⟨hDl, tr⟩ := turn i n ys τ H4 w4
    rcases tr with ⟨stop, qn⟩ | ⟨go, Nn, hNn, step⟩
    · have d := T.done Y eP eW eK eC i [] s4 τ H4 (fun _ _ => False) I4 (stat fr4) st4 stop
      rw [eA] at d
      refine thn d fun r s5 ⟨hr, I5⟩ => ?_
      subst hr
      have u : Inv X pins σ H4 s5 := by
        subst hY
        exact I3.call' (ch := fp) I5.os I5.base I5.hok I5.bare fun b hb => ⟨(hf3 b hb).2.2.2.1, (hf3 b hb).2.1, (hf3 b hb).2.2.2.2.1, (hf3 b hb).2.2.2.2.2⟩
      have hC : H4 s3.heap.objs.size = none := by have z := I5.free; rw [eE] at z; exact z
      obtain ⟨m, hn, _⟩ := I5.loc
      rw [eE] at hn
      exact hRR _ _ H4 s5 m u (I3.fpOk (Nat.le_refl _) hC) hn qn
    · have d := T.item Y eP eW eK eC i [] s4 τ H4 (fun _ _ => False) I4 (stat fr4) st4 go
      rw [eA] at d
      refine thn d fun r s5 ⟨u, hr, h5⟩ => ?_
      subst hr
      refine thn h5 fun _ s6 ⟨x, H6, I6, r6, y6, st6, fr6⟩ => ?_
      have I6' := I6.pinned (stat fr6) (T.obj _ _ st6)
      have q6 := hgY _ s6 τ H6 x u _ I6' r6 (step x H6 y6)
      rw [eP, eW, eA, eE, eXe] at q6
      refine thn q6 fun _ s7 ⟨σ7, H7, I7, q7⟩ => ?_
      have q8 := htY _ s7 σ7 H7 _ I7 q7
      rw [eP, eW, eA, eE, eXe] at q8
      refine thn q8 fun ok s8 ⟨H8, I8, q8⟩ => ?_
      have again : ∀ {σ9 : St} {H9 : Hp} {s9 : Shared} {zs : List V}, Inv Y ([] ++ pinsAt fp s6.heap) σ9 H9 s9 → (∃ m', m' < n ∧ W (i + 1) m' zs σ9 H9) → ∃ m, m < n ∧ ∃ i ys τ H', Inv Y [] τ H' s9 ∧ tn i s9.heap ∧ (∀ b ∈ fp, H' b = none) ∧ W i m ys τ H' := fun {σ9 H9 s9 zs} I9 n9 => by
        obtain ⟨m', hm, w9⟩ := n9
        refine ⟨m', hm, i + 1, zs, σ9, H9, I9.unpinned, T.keep _ _ _ st6 fun b hb o e => (I9.pin (b, o) (List.mem_append_right _ (List.mem_append_right _ (mem_pinsAt hb e)))).1, fun b hb => ?_, w9⟩
        obtain ⟨o, e, d⟩ := T.obj _ _ st6 b hb
        exact (I9.pin (b, o) (List.mem_append_right _ (List.mem_append_right _ (mem_pinsAt hb e)))).2.1
      cases ok with
      | false =>
        rw [if_neg Bool.false_ne_true]
        rw [if_neg Bool.false_ne_true] at q8
        exact again I8 (hNn _ _ _ q8)
      | true =>
        rw [if_pos rfl]
        rw [if_pos rfl] at q8
        have q9 := heY _ s8 σ7 H8 _ I8 q8
        rw [eP, eW, eA, eE, eXe] at q9
        refine thn q9 fun y s9 ⟨yv, H9, I9, r9, hD9, hz9, q9⟩ => ?_
        have ap := mt_append (X := Y) _ s9 σ7 H9 (.ref s.heap.objs.size) [yv] (.ref s.heap.objs.size) [y] (fun _ H10 => Nn (ys ++ [yv]) σ7 H10) I9 rfl (.cons r9 .nil) ⟨_, ys, yv, rfl, rfl, hD9, hz9, q9⟩
        rw [eP, eW, eA, eXe] at ap
        exact thn ap fun _ s10 ⟨_, H10, I10, _, q10⟩ => again I10 (hNn _ _ _ q10)
  subst hs3
  exact codeAny_compStart_list loop (T.self _ 0 _ _ _ st1 loop)
theorem pe_comp (hc : X.calm = true) (S : CompScope X.N X.env.scope N nv js scope) (hi : PI X tg iter wi) (hg : ∀ C s H fp, PG (cxComp X N scope C s H fp) tg g) (ht : ∀ C s H fp, PIfs (cxComp X N scope C s H fp) ifs tt)
    (he : ∀ C s H fp, PE (cxComp X N scope C s H fp) elt te) (hs : ∀ x, foldedSetIterable iter X.env x = pure x := by intro _; rfl) :
    PE X (.ListComp elt [⟨tg, iter, ifs, 0⟩] scope pos) (tComp wi g tt te nv js) := by
  intro pins s σ H Q I h
  rw [eval_ListComp]
  refine wpAny_comprehension_free (use := none) rfl hs (closureFor_eq fun n hn => I.ok.has n (S.free _ hn rfl)) S.kind S.loc (thn (hi pins s σ H _ I h) fun v s1 h1 => thn h1 fun itv s2 h2 => ?_)
  obtain ⟨it, fp, tn, J, H2, e, I2, T, st2, f2, hR⟩ := h2
  subst e
  refine comp_block (RR := fun acc C => compPost (model X.prog X.w) X.A X.xe none (EP X pins σ Q) acc C) hc S hg ht he I2 T st2 f2 hR ?_
  intro D C H' s' m I' fC hn q
  refine ⟨m, hn, fun h' sb => ⟨.ref D, H', ?_, rfl, q⟩⟩
  exact I'.turned (t' := s'.toks) (fun b o hb e => (sb.2 b hb).trans e) fC.1 fC.2.1 fC.2.2.2.1 fC.2.2.2.2.1 fC.2.2.2.2.2
theorem ps_setC {i : Nat} {x : Str} {pos' spos : Pos} (hc : X.calm = true) (hN : X.N.Nodup) (hi' : X.N[i]? = some x) (hx : X.env.scope.names.lookup x = some .local) (S : CompScope X.N X.env.scope N nv js scope) (hi : PI X tg iter wi) (hg : ∀ C s H fp, PG (cxComp X N scope C s H fp) tg g) (ht : ∀ C s H fp, PIfs (cxComp X N scope C s H fp) ifs tt)
    (he : ∀ C s H fp, PE (cxComp X N scope C s H fp) elt te) (hsw : swapsWith (.ListComp elt [⟨tg, iter, ifs, 0⟩] scope pos) (some (.Name x pos')) spos.line X.env = pure true := by rfl) (hs : ∀ x, foldedSetIterable iter X.env x = pure x := by intro _; rfl) :
    PS X (.Assign [.Name x pos'] (.ListComp elt [⟨tg, iter, ifs, 0⟩] scope pos) spos) (tAsg (tComp wi g tt te nv js) (gName i)) := by
  intro pins s σ H D I h
  rw [exec_Assign_Name_used _ _ _ _ hsw]
  refine wpAny_bind (wpAny_standAt (wpAny_bind ?_))
  show wpAny _ X.A (do let _ ← comprehension (.ListComp elt [⟨tg, iter, ifs, 0⟩] scope pos) scope X.env _ (newList []) false (eval iter X.env) (some (assign (.Name x pos') X.env))) _ _ s
  refine wpAny_bind (wpAny_mono (wpAny_comprehension_free (use := some (assign (.Name x pos') X.env)) (Q := fun _ s' => SP X pins D .next s') rfl hs (closureFor_eq fun n hn => I.ok.has n (S.free _ hn rfl)) S.kind S.loc
    (thn (hi pins s σ H _ I h) fun v s1 h1 => thn h1 fun itv s2 h2 => ?_)) (fun _ s' hq => wpAny_pure (wpAny_pure hq)) fun _ _ e => e)
  obtain ⟨it, fp, tn, J, H2, e, I2, T, st2, f2, hR⟩ := h2
  subst e
  refine comp_block (RR := fun acc C => compPost (model X.prog X.w) X.A X.xe (some (assign (.Name x pos') X.env)) (fun _ s' => SP X pins D .next s') acc C) hc S hg ht he I2 T st2 f2 hR ?_
  intro Dl C H' s' m I' fC hn q
  show wpAny _ X.A (assign (.Name x pos') X.env (.ref Dl)) _ _ _
  refine wpAny_assign_Name (store_ok2 I' hN hi' (.inl hx) (v := .ref Dl) rfl (fun s2 I3 ch => ?_) (.inr hx))
  obtain ⟨a, sb, ha⟩ := ch
  have hCa : C ≠ a := by
    rcases ha with rfl | ha
    · exact fC.2.1
    · exact (fC.2.2.2.2.1 x a ha).symm
  refine ⟨m, hn.sameBut sb hCa, fun h' sb' => ⟨_, H', ?_, q⟩⟩
  exact I3.turned (t' := s2.toks) (fun b o hb e => (sb'.2 b hb).trans e) fC.1 fC.2.1 fC.2.2.2.1 fC.2.2.2.2.1 fC.2.2.2.2.2
end
end L2

set_option Elab.async false
set_option linter.all false
set_option maxRecDepth 100000
set_option maxHeartbeats 4000000
namespace L2
open PySem PySem.Spec PyProof.Rows
section
variable {prog : Program} {w : World} {A : Around} {E : Value → Shared → Prop} {s : Shared}
end
section
variable {X : Cx} {e : Expr} {te : TE}
end
end L2

set_option Elab.async false
set_option linter.all false
set_option maxRecDepth 100000
set_option maxHeartbeats 4000000
namespace L2
open PySem PySem.Spec PyProof.Rows
def sg (c : Nat) : Str := ⟨#[c]⟩
def Its (z : Str) : It := ⟨fun i _ => i < z.cps.size, fun i H x H' => H' = H ∧ ∃ c, z.cps[i]? = some c ∧ x = .str (sg c), fun i _ => z.cps.size ≤ i⟩
theorem turn_str {P : Program} {w : World} {K : PySem.W.Frag} {tg : Expr} (it : Addr) (z : Str) (t : Tok) : Turn P w K tg (Its z) [it] it (fun i h => h.IsStrIter it (strIterType z) z t i) where
  mem := by simp
  obj := fun i h st b hb => by
    have e : b = it := by simpa using hb
    subst e
    obtain ⟨o, e, c, d⟩ := st
    exact ⟨o, e, fun v z => by rw [d] at z; cases z⟩
  keep := fun i h h' st k => by
    obtain ⟨o, e, r⟩ := st
    exact ⟨o, k it (by simp) o e, r⟩
  item := by
    intro X hP hw hK hc i pins s σ H E I hf st hg
    subst hP hw hK
    obtain ⟨f0, f1, f2, f3, f4, f5⟩ := hf it (by simp)
    have hi : i < z.cps.size := hg
    have hx : z.cps[i]? = some z.cps[i] := by simp [hi]
    cases ha : z.cps.all (· < 128) with
    | true =>
      have et : strIterType z = "str_ascii_iterator" := by simp only [strIterType, ha, if_true]
      rw [et] at st ⊢
      refine wpAny_pyNext_ascii_item st hx fun h' st' sb => ?_
      have I1 : Inv X pins σ H { s with heap := h', toks := s.toks + 1 } := I.turned (fun b o hb e => (sb.2 b hb).trans e) f0 f1 f3 f4 f5
      obtain ⟨o, e, c, d⟩ := id st'
      exact ⟨_, rfl, go_of (s := { s with heap := h', toks := s.toks + 1 }) e c d (by decide) ⟨.str (sg z.cps[i]), H, I1, ⟨_, rfl⟩, ⟨rfl, _, hx, rfl⟩, st', fun b hb => (hf b hb).1⟩⟩
    | false =>
      have et : strIterType z = "str_iterator" := by simp only [strIterType, ha, Bool.false_eq_true, if_false]
      rw [et] at st ⊢
      refine wpAny_pyNext_wide_item st hx fun h' st' sb => ?_
      have I1 : Inv X pins σ H { s with heap := h', toks := s.toks + 1 } := I.turned (fun b o hb e => (sb.2 b hb).trans e) f0 f1 f3 f4 f5
      obtain ⟨o, e, c, d⟩ := id st'
      exact ⟨_, rfl, go_of (s := { s with heap := h', toks := s.toks + 1 }) e c d (by decide) ⟨.str (sg z.cps[i]), H, I1, ⟨_, rfl⟩, ⟨rfl, _, hx, rfl⟩, st', fun b hb => (hf b hb).1⟩⟩
  done := by
    intro X hP hw hK hc i pins s σ H E I hf st hg
    subst hP hw hK
    obtain ⟨f0, f1, f2, f3, f4, f5⟩ := hf it (by simp)
    have hi : z.cps.size ≤ i := hg
    have hx : z.cps[i]? = none := by simp [hi]
    cases ha : z.cps.all (· < 128) with
    | true =>
      have et : strIterType z = "str_ascii_iterator" := by simp only [strIterType, ha, if_true]
      rw [et] at st
      exact wpAny_pyNext_ascii_end (I.ok.hd hc) st hx fun h' eb => ⟨rfl, I.turned (t' := s.toks) (fun b o hb e => eb b o hb e) f0 f1 f3 f4 f5⟩
    | false =>
      have et : strIterType z = "str_iterator" := by simp only [strIterType, ha, Bool.false_eq_true, if_false]
      rw [et] at st
      exact wpAny_pyNext_wide_end (I.ok.hd hc) st hx fun h' eb => ⟨rfl, I.turned (t' := s.toks) (fun b o hb e => eb b o hb e) f0 f1 f3 f4 f5⟩
  self := by
    intro A i s Q E st h
    cases ha : z.cps.all (· < 128) with
    | true =>
      have et : strIterType z = "str_ascii_iterator" := by simp only [strIterType, ha, if_true]
      rw [et] at st
      exact wpAny_pyIter_striter_ascii st h
    | false =>
      have et : strIterType z = "str_iterator" := by simp only [strIterType, ha, Bool.false_eq_true, if_false]
      rw [et] at st
      exact wpAny_pyIter_striter_wide st h
section
variable {X : Cx} {tg : Expr}
def iStr (tl : TE) : TI := fun σ H R => tl σ H fun x H1 => ∃ z, x = .str z ∧ R (Its z) H1
theorem pi_str {l : Expr} {tl : TE} (hl : PE X l tl) : PI X tg l (iStr tl) := by
  intro pins s σ H R I h
  refine thn (hl pins s σ H _ I h) fun v s1 ⟨x, H1, I1, r1, q1⟩ => ?_
  obtain ⟨z, e, q⟩ := q1
  subst e
  obtain ⟨t, rfl⟩ := r1
  refine wpAny_pyIter_strU ?_
  refine ⟨s1.heap.objs.size, [s1.heap.objs.size], _, _, H1, rfl, I1.kept (t' := s1.toks) fun b o e => Heap.get?_push_of_some _ e, turn_str _ z t, ⟨_, Heap.get?_push_size _ rfl, rfl, rfl⟩, fun b hb => ?_, q⟩
  have e : b = s1.heap.objs.size := by simpa using hb
  subst e
  exact I1.fpOk (Nat.le_refl _) (I1.hok.fresh (Nat.le_refl _))
end
theorem for_str {z : Str} {g : TG} {tb : TS} {D : Ends} {σ : St} {H : Hp} (Pv : Nat → St → Hp → Prop) (h0 : Pv 0 σ H)
    (hs : ∀ i c σ H, z.cps.toList[i]? = some c → Pv i σ H → g (.str (sg c)) σ H fun σ2 H2 => tb { D with nx := Pv (i + 1), ct := Pv (i + 1), bk := D.nx } σ2 H2) (hd : ∀ σ H, Pv z.cps.toList.length σ H → D.nx σ H) :
    ∃ W : Nat → Nat → St → Hp → Prop, (∃ m, W 0 m σ H) ∧ ∀ i m σ H, W i m σ H →
      ((Its z).stop i H ∧ D.nx σ H) ∨ ((Its z).go i H ∧ ∃ N : St → Hp → Prop, (∀ σ' H', N σ' H' → ∃ m', m' < m ∧ W (i + 1) m' σ' H') ∧ ∀ x H', (Its z).yld i H x H' → g x σ H' fun σ2 H2 => tb { D with nx := N, ct := N, bk := D.nx } σ2 H2) := by
  refine ⟨fun i m σ H => m = z.cps.size - i ∧ i ≤ z.cps.size ∧ Pv i σ H, ⟨z.cps.size, by simp, Nat.zero_le _, h0⟩, ?_⟩
  rintro i m σ H ⟨rfl, hi, p⟩
  by_cases hlt : i < z.cps.size
  · refine .inr ⟨hlt, Pv (i + 1), fun σ' H' p' => ⟨z.cps.size - (i + 1), by omega, rfl, hlt, p'⟩, fun x H' y => ?_⟩
    obtain ⟨e, c, hc, ex⟩ := y
    subst e ex
    exact hs i c σ _ (by simpa using hc) p
  · have e : i = z.cps.size := by omega
    subst e
    exact .inl ⟨Nat.le_refl _, hd σ H (by simpa using p)⟩
theorem comp_list {K : PySem.W.Frag} {a : Addr} {xs : List V} {g : TG} {tt : TT} {te : TE} {Q : VK} {D : Addr} {τ : St} {H : Hp} (Pv : Nat → List V → St → Hp → Prop) (h0 : Pv 0 [] τ (upd H D (.lst [])))
    (hl : ∀ i ys τ H, i ≤ xs.length → Pv i ys τ H → SqL K H a xs ∧ H D = some (.lst ys))
    (hs : ∀ i x ys τ H, xs[i]? = some x → Pv i ys τ H → g x τ H fun τ2 H2 => tt τ2 H2 fun b H3 => if b = true then te τ2 H3 fun y H4 => H4 D = some (.lst ys) ∧ ys.length < sizeLine ∧ Pv (i + 1) (ys ++ [y]) τ2 (upd H4 D (.lst (ys ++ [y]))) else Pv (i + 1) ys τ2 H3)
    (hd : ∀ ys τ H, Pv xs.length ys τ H → Q (.ref D) H) :
    CompR (Itl K a) g tt te Q D τ H := by
  refine ⟨fun i m ys τ H => m = xs.length - i ∧ i ≤ xs.length ∧ Pv i ys τ H, ⟨xs.length, by simp, Nat.zero_le _, h0⟩, ?_⟩
  rintro i m ys τ H ⟨rfl, hi, p⟩
  obtain ⟨q, hD⟩ := hl i ys τ H hi p
  refine ⟨hD, ?_⟩
  by_cases hlt : i < xs.length
  · refine .inr ⟨⟨xs, xs[i], q, by simp [hlt]⟩, Pv (i + 1), fun zs σ' H' p' => ⟨xs.length - (i + 1), by omega, rfl, hlt, p'⟩, fun x H' y => ?_⟩
    obtain ⟨e, y⟩ := y
    subst e
    exact hs i x ys τ _ (y xs q) p
  · have e : i = xs.length := by omega
    subst e
    exact .inl ⟨⟨xs, q, Nat.le_refl _⟩, hd ys τ H p⟩
theorem comp_str {z : Str} {g : TG} {tt : TT} {te : TE} {Q : VK} {D : Addr} {τ : St} {H : Hp} (Pv : Nat → List V → St → Hp → Prop) (h0 : Pv 0 [] τ (upd H D (.lst [])))
    (hl : ∀ i ys τ H, i ≤ z.cps.toList.length → Pv i ys τ H → H D = some (.lst ys))
    (hs : ∀ i c ys τ H, z.cps.toList[i]? = some c → Pv i ys τ H → g (.str (sg c)) τ H fun τ2 H2 => tt τ2 H2 fun b H3 => if b = true then te τ2 H3 fun y H4 => H4 D = some (.lst ys) ∧ ys.length < sizeLine ∧ Pv (i + 1) (ys ++ [y]) τ2 (upd H4 D (.lst (ys ++ [y]))) else Pv (i + 1) ys τ2 H3)
    (hd : ∀ ys τ H, Pv z.cps.toList.length ys τ H → Q (.ref D) H) :
    CompR (Its z) g tt te Q D τ H := by
  have hz : z.cps.toList.length = z.cps.size := by simp
  refine ⟨fun i m ys τ H => m = z.cps.size - i ∧ i ≤ z.cps.size ∧ Pv i ys τ H, ⟨z.cps.size, by simp, Nat.zero_le _, h0⟩, ?_⟩
  rintro i m ys τ H ⟨rfl, hi, p⟩
  refine ⟨hl i ys τ H (by omega) p, ?_⟩
  by_cases hlt : i < z.cps.size
  · refine .inr ⟨hlt, Pv (i + 1), fun zs σ' H' p' => ⟨z.cps.size - (i + 1), by omega, rfl, hlt, p'⟩, fun x H' y => ?_⟩
    obtain ⟨e, c, hc, ex⟩ := y
    subst e ex
    exact hs i c ys τ _ (by simpa using hc) p
  · have e : i = z.cps.size := by omega
    subst e
    exact .inl ⟨Nat.le_refl _, hd ys τ H (by rw [hz]; exact p)⟩
theorem comp_range {lo : Int} {n : Nat} {g : TG} {tt : TT} {te : TE} {Q : VK} {D : Addr} {τ : St} {H : Hp} (Pv : Nat → List V → St → Hp → Prop) (h0 : Pv 0 [] τ (upd H D (.lst [])))
    (hl : ∀ i ys τ H, i ≤ n → Pv i ys τ H → H D = some (.lst ys))
    (hs : ∀ i ys τ H, i < n → Pv i ys τ H → g (.int (lo + i)) τ H fun τ2 H2 => tt τ2 H2 fun b H3 => if b = true then te τ2 H3 fun y H4 => H4 D = some (.lst ys) ∧ ys.length < sizeLine ∧ Pv (i + 1) (ys ++ [y]) τ2 (upd H4 D (.lst (ys ++ [y]))) else Pv (i + 1) ys τ2 H3)
    (hd : ∀ ys τ H, Pv n ys τ H → Q (.ref D) H) :
    CompR (Itr lo n) g tt te Q D τ H := by
  refine ⟨fun i m ys τ H => m = n - i ∧ i ≤ n ∧ Pv i ys τ H, ⟨n, by simp, Nat.zero_le _, h0⟩, ?_⟩
  rintro i m ys τ H ⟨rfl, hi, p⟩
  refine ⟨hl i ys τ H hi p, ?_⟩
  by_cases hlt : i < n
  · refine .inr ⟨hlt, Pv (i + 1), fun zs σ' H' p' => ⟨n - (i + 1), by omega, rfl, hlt, p'⟩, fun x H' y => ?_⟩
    obtain ⟨e, y⟩ := y
    subst e y
    exact hs i ys τ _ hlt p
  · have e : i = n := by omega
    subst e
    exact .inl ⟨Nat.le_refl _, hd ys τ H p⟩
theorem strs_of : ∀ {zs : List Str} {us : List Value}, Vals (zs.map V.str) us → StrsAre us zs
  | [], _, r => by cases r; exact .nil
  | z :: zs, _, r => by
    cases r with
    | cons r1 r2 =>
      obtain ⟨t, e⟩ := r1
      subst e
      exact .cons z t (strs_of r2)
section
variable {X : Cx}
def rJoin (K : PySem.W.Frag) : V → List V → Hp → VK → Prop := fun x vs H Q => ∃ z p zs, x = .str z ∧ vs = [.ref p] ∧ SqL K H p (zs.map V.str) ∧ (zs.map (·.length)).sum + zs.length * z.length ≤ 16777216 ∧ Q (.str (Txt.join z zs)) H
theorem mt_join : MtR X "str.join" (rJoin X.K) := by
  intro pins s σ H x vs v us Q I rx rv h
  obtain ⟨z, p, zs, rfl, rfl, hq, hz, q⟩ := h
  obtain ⟨t, rfl⟩ := rx
  obtain ⟨u, rfl, ru⟩ := rv.one
  cases ru
  obtain ⟨its, r, pl, _⟩ := I.list hq
  exact join_list pl.isList (by simpa using strs_of r) hz fun t' k => ⟨.str _, H, I.tok k, ⟨t', rfl⟩, q⟩
theorem call_isinst : CallR X (.builtin "isinstance") (fun xs H Q => ∃ x c t b, xs = [x, c] ∧ TyOf X.K H x t ∧ ((∃ n, c = .ty n ∧ PySem.W.kitOne X.K t (.type n) = some b) ∨ (∃ a, c = .ref a ∧ PySem.W.kitOne X.K t (.ref a) = some b)) ∧ Q (.bl b) H) := by
  intro pins s σ H xs us Q I r h
  obtain ⟨x, c, t, b, rfl, ty, hc, q⟩ := h
  obtain ⟨u, w', rfl, ru, rw'⟩ := vals2 r
  rcases hc with ⟨n, rfl, e⟩ | ⟨a, rfl, e⟩
  · cases rw'
    exact isinst_ok I ru ty e fun tk => ⟨.bl b, H, I.tok tk, rfl, q⟩
  · cases rw'
    exact isinst_ok I ru ty e fun tk => ⟨.bl b, H, I.tok tk, rfl, q⟩
end
section
variable {X : Cx}
def rNeL (K : PySem.W.Frag) : R2 := fun x y H Q => ∃ a b xs, x = .ref a ∧ y = .ref b ∧ SqL K H a xs ∧ SqL K H b [] ∧ Q (.bl (!xs.isEmpty)) H
theorem op_neL (hu : X.A.units < cLine) : OpR X (compareOp .NotEq) (rNeL X.K) := by
  intro pins s σ H x y v u Q I rx ry h
  obtain ⟨a, b, xs, rfl, rfl, ha, hb, q⟩ := h
  cases rx
  cases ry
  obtain ⟨its, r1, p1, _⟩ := I.list ha
  obtain ⟨its2, r2, p2, _⟩ := I.list hb
  cases r2
  show wpAny _ _ (richCompare .NotEq (.ref a) (.ref b)) _ _ _
  cases xs with
  | nil =>
    cases r1
    refine SeqAt.RcNeAt.lists (e := fun _ => true) p1.isList p2.isList rfl hu (fun j h1 _ => absurd h1 (by simp)) _ _ _ _ ⟨.bl false, H, I, ?_, q⟩
    simp [RelV]
  | cons x xs =>
    cases r1 with
    | cons r rr =>
      exact SeqAt.RcNeAt.lists_lengths p1.isList p2.isList (by simp) hu _ _ _ _ ⟨.bl true, H, I, rfl, q⟩
end
end L2

set_option Elab.async false
set_option linter.all false
set_option maxRecDepth 100000
set_option maxHeartbeats 4000000
namespace L2
open PySem PySem.Spec PyProof.Rows
section
variable {X : Cx} (K : PySem.W.Frag) (h : X.K = K)
include h
theorem ixK_list : IxR X (rIxL K) := by subst h; exact ix_list
theorem ixK_tup : IxR X (rIxT K) := by subst h; exact ix_tup
theorem slK_list : SlR X (rSlL K) := by subst h; exact sl_list
theorem slK_tup : SlR X (rSlT K) := by subst h; exact sl_tup
theorem mtK_join : MtR X "str.join" (rJoin K) := by subst h; exact mt_join
theorem callK_len_seq : CallR X (.builtin "len") (fun xs H Q => ∃ p ys, xs = [.ref p] ∧ (SqL K H p ys ∨ SqT K H p ys) ∧ Q (.int ys.length) H) := by subst h; exact call_len_seq
theorem callK_isinst : CallR X (.builtin "isinstance") (fun xs H Q => ∃ x c t b, xs = [x, c] ∧ TyOf K H x t ∧ ((∃ n, c = .ty n ∧ PySem.W.kitOne K t (.type n) = some b) ∨ (∃ a, c = .ref a ∧ PySem.W.kitOne K t (.ref a) = some b)) ∧ Q (.bl b) H) := by subst h; exact call_isinst
theorem callK_tuple_of : CallR X (.type "tuple") (fun xs H Q => ∃ p ys, xs = [.ref p] ∧ ((SqL K H p ys ∧ ∀ l, H l = none → Q (.ref l) (upd H l (.tup ys))) ∨ (SqT K H p ys ∧ Q (.ref p) H))) := by subst h; exact call_tuple_of
theorem opK_catT : OpR X (binaryOp .Add) (rCatT K) := by subst h; exact op_catT
theorem opK_neL (hu : X.A.units < cLine) : OpR X (compareOp .NotEq) (rNeL K) := by subst h; exact op_neL hu
theorem piK_list {tg l : Expr} {tl : TE} (hl : PE X l tl) : PI X tg l (iList K tl) := by subst h; exact pi_list hl
theorem piK_tup {tg l : Expr} {tl : TE} (hl : PE X l tl) : PI X tg l (iTup K tl) := by subst h; exact pi_tup hl
theorem pgK_tup {es : List Expr} {k : Nat} {pos : Pos} {t : TGs} (n : Nat) (hc : X.calm = true) (hh : PGs X es t)
    (hn : (assignEach es X.env).length = n := by rfl) (hst : (assignEach es X.env).findIdx? (·.1) = none := by rfl) : PG X (.Tuple es k pos) (gTup K n t) := by subst h; exact pg_tup hc hh hn hst
theorem peK_fld {e : Expr} {ta : TE} {f : Str} {pos : Pos} (he : PE X e ta) (hb : attributeBase e f X.env (eval e X.env) = eval e X.env) : PE X (.Attribute e f pos) (tFld K ta f) := by subst h; exact pe_fld he hb
theorem peK_bm {o e : Expr} {es : List Expr} {to : TE} {t : TA} {name : Str} {apos cpos : Pos} {T id : String} {r : V → List V → Hp → VK → Prop} (pa : PlainAttrs T) (slot : Slot T name id) (hty : typeOf (.builtin id) = pure (.type "method_descriptor")) (hm : MtR X id r) (ho : PE X o to) (ha : PA X (e :: es) t)
    (hbase : attributeBase o name X.env (eval o X.env) = eval o X.env := by rfl)
    (hfew : ((backTo cpos (starEach (e :: es) X.env)).all (fun x => !x.1) && (backToKw cpos (keywordEach [] X.env)).all (fun x => x.1.isSome)
      && decide ((e :: es).length + ([] : List Keyword).length + (if ([] : List Keyword).isEmpty then 0 else 1) < 30)) = true := by rfl)
    (hline : (apos.endLine == cpos.line) = true := by rfl) (hs : starEach (e :: es) X.env = (false, eval e X.env) :: starEach es X.env := by rfl) (hplain : (backTo cpos (starEach es X.env)).any (·.1) = false := by rfl) :
    PE X (.Call (.Attribute o name apos) (e :: es) [] cpos) (tBM K T r to t) := by subst h; exact pe_bm pa slot hty hm ho ha hbase hfew hline hs hplain
end
section
variable {X : Cx}
theorem pe_gstr {x : Str} {z : Str} {t : Tok} {pos : Pos} (hg : Gl X x) (hm : X.mg x = some (.str z t)) (hd : (x == ("__debug__" : Str)) = false := by decide) : PE X (.Name x pos) (tC (.str z)) := pe_glob hg hm ⟨t, rfl⟩ hd
theorem pe_gref {x : Str} {a : Addr} {pos : Pos} (hg : Gl X x) (hm : X.mg x = some (.ref a)) (hd : (x == ("__debug__" : Str)) = false := by decide) : PE X (.Name x pos) (tC (.ref a)) := pe_glob hg hm rfl hd
theorem pe_bty (n : String) {x : Str} {pos : Pos} (hg : Gl X x) (hm : X.mg x = none) (hv : bootBuiltins x = some (.type n)) (hn : x ≠ "__name__" := by decide) (hd : (x == ("__debug__" : Str)) = false := by decide) : PE X (.Name x pos) (tC (.ty n)) := pe_bltn hg hm hv rfl hn hd
end
end L2

set_option Elab.async false
set_option linter.all false
set_option maxRecDepth 100000
set_option maxHeartbeats 4000000
namespace L2
open PySem PySem.Spec PyProof.Rows
structure FunD (K : PySem.W.Frag) (x qual : Str) (st : Stmt) (f : Addr) (fd : FuncData) (dV : Value) : Prop where
  ex : ∃ (oc : Value) (od : Option Addr) (kV doc pm : Value) (an : Option Addr) (cdv ct : Value) (osl : Array (Option Value)),
    fd = PySem.W.fnOf x qual (defArgs st) (defBody st) (defScope st) dV kV doc pm an cdv ct ∧ K.lookup f = some ⟨oc, od, .func fd, osl⟩ ∧ PySem.W.codeIn K cdv qual = true
  kp : PySem.W.keepIn K (.ref f) = true
section
variable {P : Program} {w : World} {K : PySem.W.Frag} {mg : Str → Option Value} {base : Heap}
theorem FunD.ok {x qual : Str} {st : Stmt} {f : Addr} {fd : FuncData} {dV : Value} {N ps : List Str} {k : Nat} {sp : Sp} (F : FunD K x qual st f fd dV) (S : FnScope N ps (defScope st)) (len : ∀ vs H Q E, sp vs H Q E → vs.length = ps.length)
    (hbody : ∀ (cdv : Value) (A : Around) (outer : List Env) (s : Shared) (H : Hp) (vs : List V) (Q : VK) (E : XK), Room k (A.deeper (envOfC qual (defScope st) s.heap.objs.size f cdv)) → sp vs H Q E →
      ∃ t, PSs (cxOf CX0 P w K mg base N qual (defScope st) f cdv A outer s H E).nox (defBody st) t ∧ t { nx := fun _ H' => Q .non H', rt := Q } (start N vs) H) : FnOk P w K mg base CX0 (k + 1) f fd ps sp := by
  obtain ⟨oc, od, kV, doc, pm, an, cdv, ct, osl, rfl, lk, hcd⟩ := F.ex
  refine fn_of lk hcd S len fun A outer s H vs Q E hr hsp => ?_
  obtain ⟨t, h, q⟩ := hbody cdv A outer s H vs Q E hr hsp
  exact ⟨t, h.nox, q⟩
theorem FunD.binds {x qual : Str} {st : Stmt} {f : Addr} {fd : FuncData} {dV : Value} {ps : List Str} (F : FunD K x qual st f fd dV)
    (h : ∀ (kV doc pm : Value) (an : Option Addr) (cdv ct : Value) (us : List Value), us.length = ps.length → bindArgs (PySem.W.fnOf x qual (defArgs st) (defBody st) (defScope st) dV kV doc pm an cdv ct) ⟨us, []⟩ = pure (ps.zip us)) : Binds K fd ps [] := by
  obtain ⟨oc, od, kV, doc, pm, an, cdv, ct, osl, rfl, lk, hcd⟩ := F.ex
  exact .all (h kV doc pm an cdv ct)
theorem funD_mk {x qual : Str} {st : Stmt} {f : Addr} {oc dV : Value} {od an : Option Addr} {osl : Array (Option Value)} {kV doc pm cdv ct : Value} (l : K.lookup f = some ⟨oc, od, .func (PySem.W.fnOf x qual (defArgs st) (defBody st) (defScope st) dV kV doc pm an cdv ct), osl⟩)
    (c : PySem.W.codeIn K cdv qual = true) (k : PySem.W.keepIn K (.ref f) = true) : FunD K x qual st f (PySem.W.fnOf x qual (defArgs st) (defBody st) (defScope st) dV kV doc pm an cdv ct) dV := ⟨⟨oc, od, kV, doc, pm, an, cdv, ct, osl, rfl, l, c⟩, k⟩
end
section
variable {X : Cx}
theorem vals_bl_get : ∀ {bs : List Bool} {us : List Value} {i : Nat} {u : Value}, Vals (bs.map V.bl) us → us[i]? = some u → u = .bool (bs.getD i true)
  | [], _, _, _, r, e => by cases r; simp at e
  | b :: bs, _, i, u, r, e => by
    cases r with
    | cons r1 r2 =>
      cases i with
      | zero => simp at e; subst e; exact r1
      | succ i => simp at e; simpa using vals_bl_get r2 e
theorem all_range (bs : List Bool) : ((List.range bs.length).all fun i => bs.getD i true) = bs.all id := by
  rw [Bool.eq_iff_iff, List.all_eq_true, List.all_eq_true]
  constructor
  · intro h b hb
    obtain ⟨i, hi, rfl⟩ := List.mem_iff_getElem.mp hb
    have := h i (by simpa using hi)
    simpa [List.getD, hi] using this
  · intro h i hi
    have hi' : i < bs.length := by simpa using hi
    have := h bs[i] (List.getElem_mem hi')
    simpa [List.getD, hi'] using this
def rAll (K : PySem.W.Frag) : List V → Hp → VK → Prop := fun xs H Q => ∃ (p : Addr) (bs : List Bool), xs = [.ref p] ∧ SqL K H p (bs.map V.bl) ∧ Q (.bl (bs.all id)) H
theorem call_all (hc : X.calm = true) : CallR X (.builtin "all") (rAll X.K) := by
  intro pins s σ H xs us Q I r h
  obtain ⟨p, bs, rfl, hq, q⟩ := h
  obtain ⟨u, rfl, ru⟩ := vals1 r
  cases ru
  obtain ⟨its, rv, pl, hz⟩ := I.list hq
  have hlen := rv.length
  rw [List.length_map] at hlen
  have hpl : p < s.heap.objs.size := by obtain ⟨o, ho, _⟩ := pl.isList; exact Heap.lt_size ho
  refine call_all_walk (wpAny_pyIter_list pl.isList ⟨s.heap.objs.size, _, _, _, _, _, fun i => bs.getD i true, rfl, Walks.list (A := X.A.in1) (show X.A.in1.handled = none from I.ok.hd hc) s.heap.objs.size p (Nat.ne_of_lt hpl) its.toArray, ⟨⟨_, Heap.get?_push_size _ rfl, rfl, rfl⟩, pl.isList.at fun o e => Heap.get?_push_of_some _ e⟩, ?_, ?_⟩)
  · intro i v s' Q' E' hv hq'
    have e : its[i]? = some v := by simpa using hv
    rw [vals_bl_get rv e]
    exact wpAny_truthy_bool hq'
  · intro h' tk hk
    have f0 := I.fpOk (Nat.le_refl s.heap.objs.size) (I.hok.fresh (Nat.le_refl _))
    have I2 : Inv X pins σ H { s with heap := s.heap.push { cls := .type "list_iterator", data := .fields #[.ref p, rawInt 0] } } := I.kept (t' := s.toks) fun b o e => Heap.get?_push_of_some _ e
    have I3 := I2.turned (h' := h') (t' := tk) (it := s.heap.objs.size) (fun b o hb e => hk b o (by simpa using hb) e) f0.1 f0.2.1 f0.2.2.2.1 f0.2.2.2.2.1 f0.2.2.2.2.2
    refine ⟨.bl (bs.all id), H, I3, ?_, q⟩
    show Value.bool _ = Value.bool _
    rw [List.size_toArray, ← hlen, all_range]
theorem callK_all (K : PySem.W.Frag) (h : X.K = K) (hc : X.calm = true) : CallR X (.builtin "all") (rAll K) := by subst h; exact call_all hc
def rCount : V → List V → Hp → VK → Prop := fun x vs H Q => ∃ (z : Str) (c : Nat), x = .str z ∧ vs = [.str (sg c)] ∧ Q (.int (PyProof.Rows.cnt c z.cps.toList)) H
theorem mt_count : MtR X "str.count" rCount := by
  intro pins s σ H x vs v us Q I rx rv h
  obtain ⟨z, c, rfl, rfl, q⟩ := h
  obtain ⟨t, rfl⟩ := rx
  obtain ⟨u, rfl, ru⟩ := rv.one
  obtain ⟨t', rfl⟩ := ru
  exact SC.count ⟨.int _, H, I.tok _, ⟨_, rfl⟩, by
    have e : Txt.count z (sg c) = PyProof.Rows.cnt c z.cps.toList := PyProof.Rows.count_is z c
    rw [e]; exact q⟩
theorem cnt_one : ∀ {l : List Nat} {c : Nat}, l.Nodup → c ∈ l → PyProof.Rows.cnt c l = 1
  | [], _, _, h => by cases h
  | n :: r, c, nd, h => by
    rw [PyProof.Rows.cnt_cons]
    obtain ⟨n1, n2⟩ := List.nodup_cons.mp nd
    by_cases e : n = c
    · subst e
      rw [if_pos rfl, PyProof.Rows.cnt_none _ _ n1]; rfl
    · rw [if_neg e, cnt_one n2 ((List.mem_cons.mp h).resolve_left (Ne.symm e))]; rfl
def eqVs : List V → List V → Bool
  | [], [] => true
  | x :: xs, y :: ys => eqV x y && eqVs xs ys
  | _, _ => false
theorem eqV_self : ∀ {x : V}, flatV x = true → eqV x x = true
  | .non, _ => rfl
  | .bl b, _ => by cases b <;> rfl
  | .int i, _ => by simp [eqV]
  | .str z, _ => by simp [eqV]
def eAt (xs ys : List V) (j : Nat) : Bool := match xs[j]?, ys[j]? with
  | some x, some y => eqV x y
  | _, _ => true
theorem range_eqVs : ∀ (xs ys : List V), ((List.range (min xs.length ys.length)).all (eAt xs ys) && xs.length == ys.length) = eqVs xs ys
  | [], [] => rfl
  | [], _ :: _ => by simp [eqVs]
  | _ :: _, [] => by simp [eqVs]
  | x :: xs, y :: ys => by
    have ih := range_eqVs xs ys
    have e : min (x :: xs).length (y :: ys).length = min xs.length ys.length + 1 := by rw [List.length_cons, List.length_cons]; omega
    rw [e, List.range_succ_eq_map, List.all_cons, List.all_map]
    have e2 : (eAt (x :: xs) (y :: ys) ∘ Nat.succ) = eAt xs ys := by funext j; simp [eAt]
    rw [e2]
    unfold eqVs
    rw [← ih]
    have e3 : ((x :: xs).length == (y :: ys).length) = (xs.length == ys.length) := by simp
    rw [e3]
    show (eqV x y && _ && _) = _
    rw [Bool.and_assoc]
def rNeT (K : PySem.W.Frag) : R2 := fun x y H Q => ∃ a b xs ys, x = .ref a ∧ y = .ref b ∧ SqT K H a xs ∧ SqT K H b ys ∧ xs.all flatV = true ∧ ys.all flatV = true ∧ Q (.bl (!eqVs xs ys)) H
theorem items_eqAt {A : Around} {s : Shared} {xs ys : List V} {us ws : List Value} (r1 : Vals xs us) (r2 : Vals ys ws) (f1 : xs.all flatV = true) (f2 : ys.all flatV = true) (j : Nat) (h1 : j < us.toArray.size) (h2 : j < ws.toArray.size) :
    SeqAt.EqAt A s us.toArray[j] ws.toArray[j] (eAt xs ys j) := by
  have hl1 := r1.length
  have hl2 := r2.length
  have hj1 : j < xs.length := by rw [hl1]; simpa using h1
  have hj2 : j < ys.length := by rw [hl2]; simpa using h2
  obtain ⟨u, eu, ru⟩ := r1.get (i := j) (x := xs[j]) (by simp [hj1])
  obtain ⟨w, ew, rw'⟩ := r2.get (i := j) (x := ys[j]) (by simp [hj2])
  have e1 : us.toArray[j] = u := by
    have := List.getElem?_eq_some_iff.mp eu
    obtain ⟨_, q⟩ := this
    simpa using q
  have e2 : ws.toArray[j] = w := by
    have := List.getElem?_eq_some_iff.mp ew
    obtain ⟨_, q⟩ := this
    simpa using q
  rw [e1, e2]
  have e3 : eAt xs ys j = eqV xs[j] ys[j] := by simp [eAt, hj1, hj2]
  rw [e3]
  exact eqAt_V ru rw' (List.all_eq_true.mp f1 _ (List.getElem_mem hj1)) (List.all_eq_true.mp f2 _ (List.getElem_mem hj2))
theorem op_neT (K : PySem.W.Frag) (hK : X.K = K) (hu : X.A.units < cLine) : OpR X (compareOp .NotEq) (rNeT K) := by
  subst hK
  intro pins s σ H x y v u Q I rx ry h
  obtain ⟨a, b, xs, ys, rfl, rfl, ha, hb, f1, f2, q⟩ := h
  cases rx
  cases ry
  obtain ⟨its, r1, p1, _⟩ := I.tuple ha
  obtain ⟨its2, r2, p2, _⟩ := I.tuple hb
  show wpAny _ _ (richCompare .NotEq (.ref a) (.ref b)) _ _ _
  refine SeqAt.RcNeAt.tuples (e := eAt xs ys) p1 p2 hu (fun j h1 h2 => items_eqAt r1 r2 f1 f2 j h1 h2) _ _ _ _ ⟨.bl _, H, I, ?_, q⟩
  show Value.bool _ = Value.bool _
  rw [List.size_toArray, List.size_toArray, ← r1.length, ← r2.length, range_eqVs]
end
end L2

set_option Elab.async false
set_option linter.all false
set_option maxRecDepth 100000
set_option maxHeartbeats 4000000
namespace L2
open PySem PySem.Spec PyProof.Rows
inductive SameD (K : PySem.W.Frag) (H : Hp) : Nat → V → V → Prop where
  | flat {n : Nat} {x y : V} : flatV x = true → flatV y = true → eqV x y = true → SameD K H n x y
  | ref {n : Nat} {a : Addr} : SameD K H n (.ref a) (.ref a)
  | tup {n : Nat} {a b : Addr} {xs ys : List V} : SqT K H a xs → SqT K H b ys → xs.length = ys.length → (∀ (j : Nat) x y, xs[j]? = some x → ys[j]? = some y → SameD K H n x y) → SameD K H (n + 1) (.ref a) (.ref b)
  | lst {n : Nat} {a b : Addr} {xs ys : List V} : SqL K H a xs → SqL K H b ys → xs.length = ys.length → (∀ (j : Nat) x y, xs[j]? = some x → ys[j]? = some y → SameD K H n x y) → SameD K H (n + 1) (.ref a) (.ref b)
theorem all_true (n : Nat) : (List.range n).all (fun _ => true) = true := by rw [List.all_eq_true]; intro _ _; rfl
section
variable {X : Cx} {pins : List (Addr × Obj)} {σ : St} {H : Hp} {s : Shared}
theorem items_same {A : Around} {R : V → V → Prop} {xs ys : List V} {us ws : List Value} (r1 : Vals xs us) (r2 : Vals ys ws) (h : ∀ (j : Nat) x y u w, xs[j]? = some x → ys[j]? = some y → RelV x u → RelV y w → SeqAt.EqAt A s u w true) (j : Nat) (h1 : j < us.toArray.size) (h2 : j < ws.toArray.size) :
    SeqAt.EqAt A s us.toArray[j] ws.toArray[j] true := by
  have hl1 := r1.length
  have hl2 := r2.length
  have hj1 : j < xs.length := by rw [hl1]; simpa using h1
  have hj2 : j < ys.length := by rw [hl2]; simpa using h2
  obtain ⟨u, eu, ru⟩ := r1.get (i := j) (x := xs[j]) (by simp [hj1])
  obtain ⟨w, ew, rw'⟩ := r2.get (i := j) (x := ys[j]) (by simp [hj2])
  have e1 : us.toArray[j] = u := by
    obtain ⟨_, q⟩ := List.getElem?_eq_some_iff.mp eu
    simpa using q
  have e2 : ws.toArray[j] = w := by
    obtain ⟨_, q⟩ := List.getElem?_eq_some_iff.mp ew
    simpa using q
  rw [e1, e2]
  exact h j _ _ u w (by simp [hj1]) (by simp [hj2]) ru rw'
theorem eqAt_same (I : Inv X pins σ H s) {n : Nat} {x y : V} (h : SameD X.K H n x y) : ∀ {A : Around} {u v : Value}, A.units + n < cLine → RelV x u → RelV y v → SeqAt.EqAt A s u v true := by
  induction h with
  | flat f1 f2 e => intro A u v _ ru rv; rw [← e]; exact eqAt_V ru rv f1 f2
  | ref => intro A u v _ ru rv; cases ru; cases rv; exact SeqAt.EqAt.same _
  | @tup n a b xs ys ha hb hl _ ih =>
    intro A u v hu ru rv
    cases ru; cases rv
    by_cases e : a = b
    · subst e; exact SeqAt.EqAt.same _
    · obtain ⟨its, r1, p1, _⟩ := I.tuple ha
      obtain ⟨its2, r2, p2, _⟩ := I.tuple hb
      refine SeqAt.EqAt.of_refs e ?_
      have q := SeqAt.RcAt.tuples (A := A) (e := fun _ => true) p1 p2 (by omega) fun j h1 h2 => items_same (R := fun _ _ => True) r1 r2 (fun j x y u w ex ey ru rw' => ih j x y ex ey (by show A.units + 1 + n < cLine; omega) ru rw') j h1 h2
      have e2 : ((List.range (min its.toArray.size its2.toArray.size)).all (fun _ => true) && its.toArray.size == its2.toArray.size) = true := by
        rw [all_true, List.size_toArray, List.size_toArray, ← r1.length, ← r2.length, hl]; simp
      rw [e2] at q
      exact q
  | @lst n a b xs ys ha hb hl _ ih =>
    intro A u v hu ru rv
    cases ru; cases rv
    by_cases e : a = b
    · subst e; exact SeqAt.EqAt.same _
    · obtain ⟨its, r1, p1, _⟩ := I.list ha
      obtain ⟨its2, r2, p2, _⟩ := I.list hb
      refine SeqAt.EqAt.of_refs e ?_
      have q := SeqAt.RcAt.lists (A := A) (e := fun _ => true) p1.isList p2.isList (by rw [List.size_toArray, List.size_toArray, ← r1.length, ← r2.length, hl]) (by omega) fun j h1 h2 => items_same (R := fun _ _ => True) r1 r2 (fun j x y u w ex ey ru rw' => ih j x y ex ey (by show A.units + 1 + n < cLine; omega) ru rw') j h1 h2
      rw [all_true] at q
      exact q
end
section
variable {X : Cx}
def TopD (K : PySem.W.Frag) (H : Hp) (x y : V) : Prop := ∃ (n : Nat) (a b : Addr) (xs ys : List V), x = .ref a ∧ y = .ref b ∧ n ≤ 50 ∧ xs.length = ys.length ∧ ((SqT K H a xs ∧ SqT K H b ys) ∨ (SqL K H a xs ∧ SqL K H b ys)) ∧ ∀ (j : Nat) x y, xs[j]? = some x → ys[j]? = some y → SameD K H n x y
def rNeS (K : PySem.W.Frag) : R2 := fun x y H Q => TopD K H x y ∧ Q (.bl false) H
theorem op_neS (K : PySem.W.Frag) (hK : X.K = K) (hu : X.A.units + 64 < cLine) : OpR X (compareOp .NotEq) (rNeS K) := by
  subst hK
  intro pins s σ H x y v u Q I rx ry h
  obtain ⟨⟨n, a, b, xs, ys, rfl, rfl, hn, hl, hk, hs⟩, q⟩ := h
  cases rx; cases ry
  show wpAny _ _ (richCompare .NotEq (.ref a) (.ref b)) _ _ _
  rcases hk with ⟨ha, hb⟩ | ⟨ha, hb⟩
  · obtain ⟨its, r1, p1, _⟩ := I.tuple ha
    obtain ⟨its2, r2, p2, _⟩ := I.tuple hb
    refine SeqAt.RcNeAt.tuples (e := fun _ => true) p1 p2 (by omega) (fun j h1 h2 => items_same (R := fun _ _ => True) r1 r2 (fun j x y u w ex ey ru rw' => eqAt_same I (hs j x y ex ey) (by show X.A.units + 1 + n < cLine; omega) ru rw') j h1 h2) _ _ _ _ ⟨.bl false, H, I, ?_, q⟩
    show Value.bool _ = Value.bool _
    rw [all_true, List.size_toArray, List.size_toArray, ← r1.length, ← r2.length, hl]; simp
  · obtain ⟨its, r1, p1, _⟩ := I.list ha
    obtain ⟨its2, r2, p2, _⟩ := I.list hb
    refine SeqAt.RcNeAt.lists (e := fun _ => true) p1.isList p2.isList (by rw [List.size_toArray, List.size_toArray, ← r1.length, ← r2.length, hl]) (by omega) (fun j h1 h2 => items_same (R := fun _ _ => True) r1 r2 (fun j x y u w ex ey ru rw' => eqAt_same I (hs j x y ex ey) (by show X.A.units + 1 + n < cLine; omega) ru rw') j h1 h2) _ _ _ _ ⟨.bl false, H, I, ?_, q⟩
    show Value.bool _ = Value.bool _
    rw [all_true]; rfl
end
end L2
namespace L2
open PySem PySem.Spec PyProof.Rows
section
variable {X : Cx}
theorem pe_gint {x : Str} {z : Int} {t : Tok} {pos : Pos} (hg : Gl X x) (hm : X.mg x = some (.int z t)) (hd : (x == ("__debug__" : Str)) = false := by decide) : PE X (.Name x pos) (tC (.int z)) := pe_glob hg hm ⟨t, rfl⟩ hd
end
end L2

set_option Elab.async false
set_option linter.all false
set_option maxRecDepth 100000
set_option maxHeartbeats 4000000
namespace L2
open PySem PySem.Spec PyProof.Rows
section
variable {X : Cx} {CX : CXT} {k : Nat} {f C : Addr} {fd : FuncData} {ps ks : List Str} {sp : Sp} {E : XK} {x m : Str} {p pos apos kpos : Pos} {e o : Expr} {es : List Expr} {kws : List Keyword} {te ta : TE} {t tk : TA} {nm : Option Str}
  {g : List Value → List Value → List Value} {gV : List V → List V → List V}
end
theorem kit_self {K : PySem.W.Frag} {C : Addr} : PySem.W.kitOne K (.ref C) (.ref C) = some true := by
  unfold PySem.W.kitOne
  rw [if_pos (by simp)]
section
variable {X : Cx} {pins : List (Addr × Obj)} {σ : St} {H : Hp} {s : Shared}
end
section
variable {X : Cx}
end
end L2
namespace L2
open PySem PySem.Spec PyProof.Rows
end L2

set_option Elab.async false
set_option linter.all false
set_option maxRecDepth 100000
set_option maxHeartbeats 4000000
namespace L2
open PySem PySem.Spec PyProof.Rows
section
variable {X : Cx} {pins : List (Addr × Obj)} {σ : St} {H : Hp} {s : Shared} {h' : Heap}
end
end L2
namespace L2
open PySem PySem.Spec PyProof.Rows
end L2
namespace L2
open PySem PySem.Spec PyProof.Rows
end L2

set_option Elab.async false
set_option linter.all false
set_option maxRecDepth 100000
set_option maxHeartbeats 4000000
namespace L2
open PySem PySem.Spec PyProof.Rows
end L2

set_option Elab.async false
set_option linter.all false
set_option maxRecDepth 100000
set_option maxHeartbeats 4000000
namespace L2
open PySem PySem.Spec PyProof.Rows
section
variable {X : Cx}
def rEqL (K : PySem.W.Frag) : R2 := fun x y H Q => ∃ a b xs, x = .ref a ∧ y = .ref b ∧ SqL K H a xs ∧ SqL K H b [] ∧ Q (.bl xs.isEmpty) H
theorem op_eqL (K : PySem.W.Frag) (hK : X.K = K) (hu : X.A.units < cLine) : OpR X (compareOp .Eq) (rEqL K) := by
  subst hK
  intro pins s σ H x y v u Q I rx ry h
  obtain ⟨a, b, xs, rfl, rfl, ha, hb, q⟩ := h
  cases rx
  cases ry
  obtain ⟨its, r1, p1, _⟩ := I.list ha
  obtain ⟨its2, r2, p2, _⟩ := I.list hb
  cases r2
  show wpAny _ _ (richCompare .Eq (.ref a) (.ref b)) _ _ _
  cases xs with
  | nil =>
    cases r1
    refine SeqAt.RcAt.lists (e := fun _ => true) p1.isList p2.isList rfl hu (fun j h1 _ => absurd h1 (by simp)) _ _ _ _ ⟨.bl true, H, I, ?_, q⟩
    simp [RelV]
  | cons x xs =>
    cases r1 with
    | cons r rr =>
      exact SeqAt.RcAt.lists_lengths p1.isList p2.isList (by simp) hu _ _ _ _ ⟨.bl false, H, I, rfl, q⟩
end
section
variable {X : Cx}
end
end L2

set_option Elab.async false
set_option linter.all false
set_option maxRecDepth 100000
set_option maxHeartbeats 4000000
namespace L2
open PySem PySem.Spec PyProof.Rows
def IsRevT (h : Heap) (a : Addr) (x : Str) (t : Tok) (i : Int) : Prop := ∃ o, h.get? a = some o ∧ o.cls = .type "reversed" ∧ o.data = .fields #[.str x t, rawInt i]
section
variable {prog : Program} {w : World} {A : Around} {E : Value → Shared → Prop} {s : Shared}
theorem IsRevT.typeIs {a : Addr} {x : Str} {t : Tok} {i : Int} (q : IsRevT s.heap a x t i) : s.TypeIs (.ref a) "reversed" := let ⟨o, ho, hc, _⟩ := q; ⟨o, ho, hc⟩
theorem IsRevT.at {h h' : Heap} {a : Addr} {x : Str} {t : Tok} {i : Int} (q : IsRevT h a x t i) (e : ∀ o, h.get? a = some o → h'.get? a = some o) : IsRevT h' a x t i := let ⟨o, ho, r⟩ := q; ⟨o, e _ ho, r⟩
end
section
variable {X : Cx} {e : Expr} {te : TE}
end
end L2

set_option Elab.async false
set_option linter.all false
set_option maxRecDepth 100000
set_option maxHeartbeats 4000000
namespace L2
open PySem PySem.Spec PyProof.Rows
section
variable {prog : Program} {w : World} {A : Around} {E : Value → Shared → Prop} {s : Shared}
end
end L2

set_option Elab.async false
set_option linter.all false
set_option maxRecDepth 100000
set_option maxHeartbeats 4000000
namespace L2
open PySem PySem.Spec PyProof.Rows
theorem comp_tup {K : PySem.W.Frag} {a : Addr} {xs : List V} {g : TG} {tt : TT} {te : TE} {Q : VK} {D : Addr} {τ : St} {H : Hp} (Pv : Nat → List V → St → Hp → Prop) (h0 : Pv 0 [] τ (upd H D (.lst [])))
    (hl : ∀ i ys τ H, i ≤ xs.length → Pv i ys τ H → SqT K H a xs ∧ H D = some (.lst ys))
    (hs : ∀ i x ys τ H, xs[i]? = some x → Pv i ys τ H → g x τ H fun τ2 H2 => tt τ2 H2 fun b H3 => if b = true then te τ2 H3 fun y H4 => H4 D = some (.lst ys) ∧ ys.length < sizeLine ∧ Pv (i + 1) (ys ++ [y]) τ2 (upd H4 D (.lst (ys ++ [y]))) else Pv (i + 1) ys τ2 H3)
    (hd : ∀ ys τ H, Pv xs.length ys τ H → Q (.ref D) H) :
    CompR (Itt K a) g tt te Q D τ H := by
  refine ⟨fun i m ys τ H => m = xs.length - i ∧ i ≤ xs.length ∧ Pv i ys τ H, ⟨xs.length, by simp, Nat.zero_le _, h0⟩, ?_⟩
  rintro i m ys τ H ⟨rfl, hi, p⟩
  obtain ⟨q, hD⟩ := hl i ys τ H hi p
  refine ⟨hD, ?_⟩
  by_cases hlt : i < xs.length
  · refine .inr ⟨⟨xs, xs[i], q, by simp [hlt]⟩, Pv (i + 1), fun zs σ' H' p' => ⟨xs.length - (i + 1), by omega, rfl, hlt, p'⟩, fun x H' y => ?_⟩
    obtain ⟨e, y⟩ := y
    subst e
    exact hs i x ys τ _ (y xs q) p
  · have e : i = xs.length := by omega
    subst e
    exact .inl ⟨⟨xs, q, Nat.le_refl _⟩, hd ys τ H p⟩
end L2

set_option Elab.async false
set_option linter.all false
set_option maxRecDepth 100000
set_option maxHeartbeats 4000000
namespace L2
open PySem PySem.Spec PyProof.Rows
section
variable {prog : Program} {w : World} {A : Around} {E : Value → Shared → Prop} {s : Shared}
end
section
variable {prog : Program} {w : World} {A : Around} {E : Value → Shared → Prop} {s : Shared}
end
section
variable {prog : Program} {w : World} {A : Around} {E : Value → Shared → Prop} {s : Shared}
end
end L2

set_option Elab.async false
set_option linter.all false
set_option maxRecDepth 100000
set_option maxHeartbeats 4000000
namespace L2
open PySem PySem.Spec PyProof.Rows
section
variable {X : Cx}
end
end L2

set_option Elab.async false
set_option linter.all false
set_option maxRecDepth 100000
set_option maxHeartbeats 4000000
namespace L2
open PySem PySem.Spec PyProof.Rows
inductive CmpD (K : PySem.W.Frag) (H : Hp) : Nat → V → V → Bool → Prop where
  | flat {n : Nat} {x y : V} : flatV x = true → flatV y = true → CmpD K H n x y (eqV x y)
  | same {n : Nat} {a : Addr} : CmpD K H n (.ref a) (.ref a) true
  | tup {n : Nat} {a b : Addr} {xs ys : List V} {e : Nat → Bool} : a ≠ b → SqT K H a xs → SqT K H b ys → (∀ (j : Nat) x y, xs[j]? = some x → ys[j]? = some y → CmpD K H n x y (e j)) → CmpD K H (n + 1) (.ref a) (.ref b) ((List.range (min xs.length ys.length)).all e && xs.length == ys.length)
  | lst {n : Nat} {a b : Addr} {xs ys : List V} {e : Nat → Bool} : a ≠ b → SqL K H a xs → SqL K H b ys → xs.length = ys.length → (∀ (j : Nat) x y, xs[j]? = some x → ys[j]? = some y → CmpD K H n x y (e j)) → CmpD K H (n + 1) (.ref a) (.ref b) ((List.range xs.length).all e)
  | len {n : Nat} {a b : Addr} {xs ys : List V} : a ≠ b → SqL K H a xs → SqL K H b ys → xs.length ≠ ys.length → CmpD K H (n + 1) (.ref a) (.ref b) false
section
variable {X : Cx} {pins : List (Addr × Obj)} {σ : St} {H : Hp} {s : Shared}
end
section
variable {X : Cx}
inductive TopC (K : PySem.W.Frag) (H : Hp) : V → V → Bool → Prop where
  | tup {n : Nat} {a b : Addr} {xs ys : List V} {e : Nat → Bool} : n ≤ 50 → SqT K H a xs → SqT K H b ys → (∀ (j : Nat) x y, xs[j]? = some x → ys[j]? = some y → CmpD K H n x y (e j)) → TopC K H (.ref a) (.ref b) ((List.range (min xs.length ys.length)).all e && xs.length == ys.length)
  | lst {n : Nat} {a b : Addr} {xs ys : List V} {e : Nat → Bool} : n ≤ 50 → SqL K H a xs → SqL K H b ys → xs.length = ys.length → (∀ (j : Nat) x y, xs[j]? = some x → ys[j]? = some y → CmpD K H n x y (e j)) → TopC K H (.ref a) (.ref b) ((List.range xs.length).all e)
  | len {a b : Addr} {xs ys : List V} : SqL K H a xs → SqL K H b ys → xs.length ≠ ys.length → TopC K H (.ref a) (.ref b) false
end
end L2

set_option Elab.async false
set_option linter.all false
set_option maxRecDepth 100000
set_option maxHeartbeats 4000000
namespace L2
open PySem PySem.Spec PyProof.Rows
def FlAt (h₀ : Heap) (H : Hp) (h : Heap) (e : Addr) (vs : Array Value) : Option Value → Prop
  | none => vs[1]? = some .none ∧ vs[2]? = some .none
  | some v => ∃ T oT ts, vs[1]? = some (.ref T) ∧ H T = none ∧ h₀.get? T = none ∧ T ≠ e ∧ h.get? T = some oT ∧ oT.data = .fields ts ∧ ts[3]? = some v ∧ vs[2]? = some .none
theorem FlAt.cx {h₀ : Heap} {H : Hp} {h : Heap} {e : Addr} {vs : Array Value} {fl : Option Value} (x : FlAt h₀ H h e vs fl) : vs[2]? = some .none := by
  cases fl with
  | none => exact x.2
  | some v => obtain ⟨_, _, _, _, _, _, _, _, _, _, z⟩ := x; exact z
structure Exc (h₀ : Heap) (H : Hp) (h : Heap) (e : Addr) (C : Value) (od : Option Addr) (fl : Option Value) : Prop where
  fr : H e = none
  nw : h₀.get? e = none
  tr : ∃ oe vs, h.get? e = some oe ∧ oe.cls = C ∧ oe.dict = od ∧ oe.data = .fields vs ∧ FlAt h₀ H h e vs fl
structure Mv (fs ch : List Addr) (h h' : Heap) : Prop where
  keep : ∀ b o, b ∉ ch → b ∉ fs → h.get? b = some o → h'.get? b = some o
  slot : ∀ b o, b ∉ ch → h.get? b = some o → ∃ sl, h'.get? b = some { o with slots := sl }
  there : ∀ b o, h.get? b = some o → ∃ o', h'.get? b = some o'
theorem Mv.trans {fs ch : List Addr} {h h1 h2 : Heap} (a : Mv fs ch h h1) (b : Mv fs ch h1 h2) : Mv fs ch h h2 :=
  ⟨fun c o n1 n2 q => b.keep c o n1 n2 (a.keep c o n1 n2 q), fun c o n q => let ⟨sl, q1⟩ := a.slot c o n q; let ⟨sl2, q2⟩ := b.slot c _ n q1; ⟨sl2, q2⟩, fun c o q => let ⟨o1, q1⟩ := a.there c o q; b.there c o1 q1⟩
theorem Mv.mono {fs fs' ch ch' : List Addr} {h h' : Heap} (a : Mv fs ch h h') (hf : ∀ b ∈ fs, b ∈ fs') (hc : ∀ b ∈ ch, b ∈ ch') : Mv fs' ch' h h' :=
  ⟨fun c o n1 n2 q => a.keep c o (fun z => n1 (hc c z)) (fun z => n2 (hf c z)) q, fun c o n q => a.slot c o (fun z => n (hc c z)) q, a.there⟩
theorem Mv.refl {fs ch : List Addr} {h : Heap} : Mv fs ch h h := ⟨fun _ _ _ _ q => q, fun _ o _ q => ⟨o.slots, q⟩, fun _ o q => ⟨o, q⟩⟩
theorem Mv.of_slots {fs ch : List Addr} {h h' : Heap} (x : Heap.SlotsOnly fs h h') : Mv fs ch h h' :=
  ⟨fun b o _ n q => (x.2.1 b n).trans q, fun b o _ q => x.2.2 b o q, fun b o q => let ⟨sl, e⟩ := x.2.2 b o q; ⟨_, e⟩⟩
theorem Mv.push {fs ch : List Addr} {h : Heap} (o : Obj) : Mv fs ch h (h.push o) :=
  ⟨fun b u _ _ q => Heap.get?_push_of_some _ q, fun b u _ q => ⟨u.slots, Heap.get?_push_of_some _ q⟩, fun b u q => ⟨u, Heap.get?_push_of_some _ q⟩⟩
theorem Mv.upd {fs ch : List Addr} {h : Heap} {a : Addr} {f : Obj → Obj} {o : Obj} (ha : a ∈ ch) (q : h.get? a = some o) (hf : (f o).isFreed = false) : Mv fs ch h (h.update a f) := by
  have ne : ∀ b, b ∉ ch → a ≠ b := fun b n z => n (z ▸ ha)
  refine ⟨fun b u n _ e => (Heap.get?_update_other _ _ (ne b n)).trans e, fun b u n e => ⟨u.slots, (Heap.get?_update_other _ _ (ne b n)).trans e⟩, fun b u e => ?_⟩
  by_cases hb : a = b
  · subst hb; exact ⟨_, Heap.get?_update_self _ q hf⟩
  · exact ⟨u, (Heap.get?_update_other _ _ hb).trans e⟩
theorem Mv.frames {fs ch : List Addr} {h h' base : Heap} (x : Mv fs ch h h') {l : List Env} (hl : h.FunFrames base l) (hc : ∀ b ∈ ch, ∀ o, h.get? b = some o → ∃ vs, o.data = .fields vs) : h'.FunFrames base l :=
  hl.of_keeps fun b o q nf => by
    have n : b ∉ ch := fun z => let ⟨vs, e⟩ := hc b z o q; nf vs e
    obtain ⟨sl, e⟩ := x.slot b o n q
    exact ⟨_, e, rfl⟩

section
variable {M : Model} {A : Around} {E : Value → Shared → Prop} {s : Shared} {base : Heap} {env : Env} {outer : List Env} {L e : Addr} {Q : Unit → Shared → Prop}
theorem entry_new {oe : Obj} {vs : Array Value} {head : Value} {hn : Bool} (hfr : A.frames = some (env :: outer)) (hl : s.heap.FunFrames base (env :: outer)) (hf : env.frame = some L)
    (he : s.heap.get? e = some oe) (hd : oe.data = .fields vs) (hsz : 1 < vs.size)
    (k : ∀ h' T oT ts, Mv (frs (env :: outer)) [e] s.heap h' → s.heap.objs.size ≤ T → T ≠ e → h'.get? e = some (oe.mapFields (·.setIfInBounds 1 (.ref T))) → h'.get? T = some oT → oT.data = .fields ts → ts[3]? = some (rawInt L) → Q () { s with heap := h' }) :
    wpAny M A (do let a ← frameOf env; let pl ← entryPlaceOf L hn; let b ← EntryCells.newEntry head a .none (rawInt L) .none pl; setField (.ref e) 1 b) Q E s := by
  have hnf : e ∉ (env :: outer).filterMap (·.frame) := fun z => by
    obtain ⟨_, o, ho, nf⟩ := hl.mem z
    rw [he] at ho
    cases ho
    exact nf vs hd
  refine wpAny_bind (wpAny_frameOf_fun hfr hl hf fun h1 s1 => wpAny_bind (wpAny_entryPlaceOf fun pl hpl => ?_))
  unfold EntryCells.newEntry newFields
  refine wpAny_bind (wpAny_newObj_type ?_ (hpl.sizeOk5 _ _ _ _ _))
  have e1 : h1.get? e = some oe := (s1.2.1 e hnf).trans he
  have e2 := fun o => Heap.get?_push_of_some (h := h1) o e1
  refine wpAny_setField (e2 _) hd hsz ?_
  have hne : h1.objs.size ≠ e := Nat.ne_of_gt (Heap.lt_size e1)
  have fd := Obj.data_mapFields hd (·.setIfInBounds 1 (Value.ref h1.objs.size))
  have m1 : Mv (frs (env :: outer)) [e] s.heap h1 := Mv.of_slots s1
  refine k _ h1.objs.size _ _ ((m1.trans (Mv.push _)).trans (Mv.upd (List.mem_singleton.mpr rfl) (e2 _) (Obj.isFreed_of_fields fd))) ?_ hne (Heap.get?_update_self _ (e2 _) (Obj.isFreed_of_fields fd)) ((Heap.get?_update_other _ _ (Ne.symm hne)).trans (Heap.get?_push_size h1 rfl)) rfl ?_
  · rw [s1.1]; exact Nat.le_refl _
  · first | (simp; done) | (rcases hpl with rfl | ⟨_, _, _, _, _, _, _, rfl⟩ <;> simp)
end

section
variable {M : Model} {A : Around} {E : Value → Shared → Prop} {s : Shared} {base h₀ : Heap} {H : Hp} {env : Env} {outer : List Env} {L e : Addr} {C : Value} {od : Option Addr} {Q : Unit → Shared → Prop}
def ChOk (h₀ : Heap) (H : Hp) (ch : List Addr) : Prop := ∀ b ∈ ch, H b = none ∧ h₀.get? b = none
theorem mapF_cls (oe : Obj) (f : Array Value → Array Value) : (oe.mapFields f).cls = oe.cls := Obj.cls_mapFields _ _
theorem mapF_dict (oe : Obj) (f : Array Value → Array Value) : (oe.mapFields f).dict = oe.dict := by
  obtain ⟨c, d, dt, sl⟩ := oe
  cases dt <;> rfl
theorem note_exc {fl : Option Value} (hfr : A.frames = some (env :: outer)) (hl : s.heap.FunFrames base (env :: outer)) (hf : env.frame = some L)
    (x : Exc h₀ H s.heap e C od fl) (hfl : fl = none ∨ fl = some .none ∨ fl = some (rawInt L))
    (ht : ∀ b o, h₀.get? b = some o → ∃ o', s.heap.get? b = some o') (hH : ∀ b, s.heap.objs.size ≤ b → H b = none)
    (k : ∀ h' ch, ChOk h₀ H ch → Mv (frs (env :: outer)) ch s.heap h' → Exc h₀ H h' e C od (some (rawInt L)) → Q () { s with heap := h' }) :
    wpAny M A (noteFrame (.ref e) env) Q E s := by
  obtain ⟨fr, nw, oe, vs, he, hc, hdi, hd, fa⟩ := x
  have new0 : ∀ T, s.heap.get? T = none → h₀.get? T = none := fun T hT => by
    cases q : h₀.get? T with
    | none => rfl
    | some o => obtain ⟨o', z⟩ := ht T o q; rw [hT] at z; cases z
  unfold noteFrame
  simp only [hf]
  rcases hfl with rfl | rfl | rfl
  · obtain ⟨h1, hx2⟩ := fa
    refine wpAny_bind (wpAny_field he hd h1 ?_)
    rw [if_neg (by decide)]
    have hsz := (Array.getElem?_eq_some_iff.mp h1).1
    refine entry_new hfr hl hf he hd hsz fun h' T oT ts m zT hne e1 eT dT t3 => ?_
    have nT : s.heap.get? T = none := Heap.get?_none_of_le zT
    have hT : H T = none := hH T zT
    refine k h' [e] (fun b hb => ?_) m ⟨fr, nw, _, _, e1, (mapF_cls _ _).trans hc, (mapF_dict _ _).trans hdi, Obj.data_mapFields hd _, T, oT, ts, by simp [hsz], hT, new0 T nT, hne, eT, dT, t3, by rw [Array.getElem?_setIfInBounds_ne (by decide)]; exact hx2⟩
    rw [List.mem_singleton.mp hb]
    exact ⟨fr, nw⟩
  · obtain ⟨T0, o0, t0, h1, n0, w0, ne0, q0, d0, z3, hx2⟩ := fa
    refine wpAny_bind (wpAny_field he hd h1 ?_)
    rw [if_pos (show (Value.ref T0 != Value.none) = true from by simp)]
    refine wpAny_bind (wpAny_field q0 d0 z3 ?_)
    rw [if_neg (show ¬ ((Value.none == rawInt L) = true) from by simp [rawInt])]
    have z3s := (Array.getElem?_eq_some_iff.mp z3).1
    refine wpAny_bind (wpAny_setField q0 d0 z3s ?_)
    have hsz := (Array.getElem?_eq_some_iff.mp h1).1
    have m0 : Mv (frs (env :: outer)) [e, T0] s.heap (s.heap.update T0 (Obj.mapFields (·.setIfInBounds 3 Value.none))) :=
      Mv.upd (List.mem_cons_of_mem _ (List.mem_singleton.mpr rfl)) q0 (Obj.isFreed_of_fields (Obj.data_mapFields d0 _))
    have he1 : (s.heap.update T0 (Obj.mapFields (·.setIfInBounds 3 Value.none))).get? e = some oe := (Heap.get?_update_other _ _ ne0).trans he
    have hl1 : (s.heap.update T0 (Obj.mapFields (·.setIfInBounds 3 Value.none))).FunFrames base (env :: outer) := m0.frames hl fun b hb o q => by
      rcases List.mem_cons.mp hb with rfl | hb
      · rw [he] at q; cases q; exact ⟨vs, hd⟩
      · rw [List.mem_singleton.mp hb, q0] at q; cases q; exact ⟨t0, d0⟩
    have zs : (s.heap.update T0 (Obj.mapFields (·.setIfInBounds 3 Value.none))).objs.size = s.heap.objs.size := Heap.size_after_update ..
    refine entry_new (s := { s with heap := s.heap.update T0 (Obj.mapFields (·.setIfInBounds 3 Value.none)) }) hfr hl1 hf he1 hd hsz fun h' T oT ts m zT hne e1 eT dT t3 => ?_
    have zT : s.heap.objs.size ≤ T := by rw [← zs]; exact zT
    have nT : s.heap.get? T = none := Heap.get?_none_of_le zT
    refine k h' [e, T0] (fun b hb => ?_) (m0.trans (m.mono (fun _ z => z) fun b z => by rw [List.mem_singleton.mp z]; exact List.mem_cons_self)) ⟨fr, nw, _, _, e1, (mapF_cls _ _).trans hc, (mapF_dict _ _).trans hdi, Obj.data_mapFields hd _, T, oT, ts, by simp [hsz], hH T zT, new0 T nT, hne, eT, dT, t3, by rw [Array.getElem?_setIfInBounds_ne (by decide)]; exact hx2⟩
    rcases List.mem_cons.mp hb with rfl | hb
    · exact ⟨fr, nw⟩
    · rw [List.mem_singleton.mp hb]; exact ⟨n0, w0⟩
  · obtain ⟨T0, o0, t0, h1, n0, w0, ne0, q0, d0, z3, hx2⟩ := fa
    refine wpAny_bind (wpAny_field he hd h1 ?_)
    rw [if_pos (show (Value.ref T0 != Value.none) = true from by simp)]
    refine wpAny_bind (wpAny_field q0 d0 z3 ?_)
    rw [if_pos (show (rawInt L == rawInt L) = true from by simp)]
    refine wpAny_pure ?_
    exact k s.heap [] (fun b hb => nomatch hb) Mv.refl ⟨fr, nw, oe, vs, he, hc, hdi, hd, T0, o0, t0, h1, n0, w0, ne0, q0, d0, z3, hx2⟩

theorem land_exc {v : Value} (x : Exc h₀ H s.heap e C od (some v)) (k : ∀ h' ch, ChOk h₀ H ch → Mv [] ch s.heap h' → Exc h₀ H h' e C od (some .none) → Q () { s with heap := h' }) :
    wpAny M A (setFlight (.ref e) none) Q E s := by
  obtain ⟨fr, nw, oe, vs, he, hc, hdi, hd, T, oT, ts, h1, n0, w0, ne0, q0, d0, z3, hx2⟩ := x
  have hsz := (Array.getElem?_eq_some_iff.mp z3).1
  refine wpAny_setFlight_none he hd h1 q0 d0 hsz (k _ [T] (fun b hb => ?_) (Mv.upd (List.mem_singleton.mpr rfl) q0 (Obj.isFreed_of_fields (Obj.data_mapFields d0 _))) ⟨fr, nw, oe, vs, (Heap.get?_update_other _ _ ne0).trans he, hc, hdi, hd, T, _, _, h1, n0, w0, ne0, Heap.get?_update_self _ q0 (Obj.isFreed_of_fields (Obj.data_mapFields d0 _)), Obj.data_mapFields d0 _, by simp [hsz], hx2⟩)
  rw [List.mem_singleton.mp hb]
  exact ⟨n0, w0⟩
theorem leave_exc {fl : Option Value} (hfr : A.frames = some (env :: outer)) (hl : s.heap.FunFrames base (env :: outer)) (hf : env.frame = some L)
    (x : Exc h₀ H s.heap e C od fl) (hfl : fl = none ∨ fl = some .none ∨ fl = some (rawInt L))
    (ht : ∀ b o, h₀.get? b = some o → ∃ o', s.heap.get? b = some o') (hH : ∀ b, s.heap.objs.size ≤ b → H b = none)
    (k : ∀ h' ch, ChOk h₀ H ch → Mv (frs (env :: outer)) ch s.heap h' → Exc h₀ H h' e C od (some .none) → Q () { s with heap := h' }) :
    wpAny M A (leaving env (.ref e)) Q E s := by
  unfold leaving
  refine wpAny_bind (note_exc hfr hl hf x hfl ht hH fun h1 c1 k1 m1 x1 => ?_)
  refine land_exc x1 fun h2 c2 k2 m2 x2 => ?_
  refine k h2 (c1 ++ c2) (fun b hb => (List.mem_append.mp hb).elim (k1 b) (k2 b)) ((m1.mono (fun _ z => z) fun b z => List.mem_append_left _ z).trans (m2.mono (fun b z => nomatch z) fun b z => List.mem_append_right _ z)) x2
end

section
variable {X : Cx} {pins : List (Addr × Obj)} {σ σ' : St} {H H' : Hp} {s s1 : Shared}
theorem Inv.mv {h' : Heap} {ch : List Addr} (I : Inv X pins σ H s) (J : Inv X pins σ' H' s1) (m : Mv (frs X.stack) ch s1.heap h') (hc : ∀ b ∈ ch, H' b = none ∧ s.heap.get? b = none) : Inv X pins σ' H' { s1 with heap := h' } := by
  have nch : ∀ b o, s.heap.get? b = some o → b ∉ ch := fun b o e z => by rw [(hc b z).2] at e; cases e
  have n0 : ∀ b o, X.s₀.heap.get? b = some o → b ∉ X.ex → b ∉ ch := fun b o e hx => let ⟨o', e'⟩ := I.base.there b o e hx; nch b o' e'
  have neL : ∀ b o, X.s₀.heap.get? b = some o → b ≠ X.env.locals := fun b o e => Nat.ne_of_lt (Nat.lt_of_lt_of_le (Heap.lt_size e) I.ok.above)
  have nst : ∀ b, b ≠ X.env.locals → b ∉ X.fs → b ∉ frs X.stack := fun b h1 h2 z => (List.mem_cons.mp (I.stkSub b z)).elim h1 h2
  have cellK : ∀ x c, X.env.cells.lookup x = some c → ∀ v, s1.heap.IsCell c v → Heap.IsCell h' c v := fun x c e v ⟨o, ho, hd⟩ => by
    obtain ⟨v0, o0, e0, _⟩ := I.cell x c e
    obtain ⟨sl, q⟩ := m.slot c o (nch c o0 e0) ho
    exact ⟨_, q, hd⟩
  have locO : ∃ o, s.heap.get? X.env.locals = some o := let ⟨m', ⟨o, _, _, ho, _⟩, _⟩ := I.loc; ⟨o, ho⟩
  obtain ⟨oL, eL⟩ := locO
  refine ⟨J.ok, J.os, J.bare, ⟨fun b o e n hb hx => m.keep b o (n0 b o e hx) (nst b (neL b o e) hb) (J.base.keep b o e n hb hx), fun b o e n hb hx => ?_, J.base.free, fun b o e hx => ?_, J.base.tups, J.base.frzs, J.base.tbls⟩, ?_, fun x c e => ?_, J.free, J.freeC, fun p hp => ?_, fun a o e => ?_, J.len⟩
  · obtain ⟨sl, e1⟩ := J.base.slot b o e n hb hx
    obtain ⟨sl2, e2⟩ := m.slot b _ (n0 b o e hx) e1
    exact ⟨sl2, e2⟩
  · obtain ⟨o', e1⟩ := J.base.there b o e hx
    exact m.there b o' e1
  · obtain ⟨mm, ⟨o, es, ep, ho, r⟩, hl⟩ := J.loc
    obtain ⟨sl, q⟩ := m.slot _ o (nch _ oL eL) ho
    refine ⟨mm, ⟨_, es, ep, q, r⟩, fun i x v e1 e2 e3 => ?_⟩
    obtain ⟨u, r1, l⟩ := hl i x v e1 e2 e3
    refine ⟨u, r1, ?_⟩
    rcases l with l | ⟨k, c, e, z⟩
    · exact .inl l
    · exact .inr ⟨k, c, e, cellK x c e _ z⟩
  · obtain ⟨v, z⟩ := J.cell x c e
    exact ⟨v, cellK x c e v z⟩
  · obtain ⟨e0, _, _, _, _⟩ := I.pin p hp
    obtain ⟨e, n, ne, nf, d⟩ := J.pin p hp
    exact ⟨m.keep p.1 p.2 (nch _ _ e0) (nst _ ne nf) e, n, ne, nf, d⟩
  · refine (J.hok a o e).stay (fun b u hb q => m.keep b u (fun z => ?_) (fun z => ?_) q) (fun _ q => q) fun _ _ q => q
    · have := (hc b z).1
      rcases hb with rfl | hb
      · rw [this] at e; cases e
      · rw [this] at hb; cases hb
    · have := J.stkFree b z
      rcases hb with rfl | hb
      · rw [this] at e; cases e
      · rw [this] at hb; cases hb
def CXe (P : Program) (w : World) : CXT := fun outer H s E e s' => ∃ ea C od H', e = .ref ea ∧ s'.os = s.os ∧ AllBare s'.gens ∧ Un (frs outer) [] H H' s.heap s'.heap ∧ HOk P w H' s'.heap ∧ Exc s.heap H' s'.heap ea C od (some .none) ∧ E C od H'

theorem Exc.older {h₀ h1 h : Heap} {H : Hp} {e : Addr} {C : Value} {od : Option Addr} {fl : Option Value} (x : Exc h1 H h e C od fl) (ht : ∀ b, h1.get? b = none → h₀.get? b = none) : Exc h₀ H h e C od fl := by
  obtain ⟨fr, nw, oe, vs, he, hc, hdi, hd, fa⟩ := x
  refine ⟨fr, ht _ nw, oe, vs, he, hc, hdi, hd, ?_⟩
  cases fl with
  | none => exact fa
  | some v => obtain ⟨T, oT, ts, h1, n0, w0, r⟩ := fa; exact ⟨T, oT, ts, h1, n0, ht _ w0, r⟩
theorem leaveX {E : XK} {E' : Value → Shared → Prop} {ea : Addr} {C : Value} {od : Option Addr} {fl : Option Value} (hst : X.stack = X.env :: X.outer) (hfm : X.env.frame = some X.env.locals) (hex : X.ex = [])
    (I : Inv X pins σ H s) (J : Inv X pins σ' H' s1) (ht : ∀ b o, s.heap.get? b = some o → ∃ o', s1.heap.get? b = some o') (x : Exc s.heap H' s1.heap ea C od fl) (hfl : fl = none ∨ fl = some .none ∨ fl = some (rawInt X.env.locals)) (hE : E C od H') :
    wpAny (model X.prog X.w) X.A (leaving X.env (.ref ea)) (fun _ s'' => CXe X.prog X.w X.outer X.H₀ X.s₀ E (.ref ea) s'') E' s1 := by
  have hl := J.stack
  rw [hst] at hl
  refine leave_exc (J.ok.frames.trans (by rw [hst])) hl hfm x hfl ht (fun b hb => J.hok.fresh hb) fun h' ch hc m x' => ?_
  have K := I.mv J (h' := h') (by rw [hst]; exact m) hc
  have old : ∀ b, s.heap.get? b = none → X.s₀.heap.get? b = none := fun b hb => by
    cases q : X.s₀.heap.get? b with
    | none => rfl
    | some o => obtain ⟨o', z⟩ := I.base.there b o q (by rw [hex]; simp); rw [hb] at z; cases z
  have U := K.base
  rw [hex] at U
  exact ⟨ea, C, od, H', rfl, J.os, J.bare, U, K.hok, x'.older old, hE⟩
end

section
variable {P : Program} {w : World} {K : PySem.W.Frag} {mg : Str → Option Value} {base : Heap} {N : List Str} {qual : Str} {scope : Scope} {f : Addr} {cd : Value} {A : Around} {outer : List Env} {s : Shared} {H : Hp} {E : XK}
theorem passE : Passes (CXe P w) (cxOf (CXe P w) P w K mg base N qual scope f cd A outer s H E) E := by
  rintro pins σ H1 s1 e s' I ⟨ea, C, od, H', rfl, os, bare, un, hok, x, hE⟩
  have J := I.call' os un hok bare (fun b z => nomatch z)
  exact leaveX (X := cxOf (CXe P w) P w K mg base N qual scope f cd A outer s H E) rfl rfl rfl I J (fun b o q => un.there b o q (by simp)) x (.inr (.inl rfl)) hE
theorem Fun.okE {x : Str} {st : Stmt} {fd : FuncData} {ps : List Str} {k : Nat} {sp : Sp} (F : Fun K x qual st f fd) (S : FnScope N ps (defScope st)) (len : ∀ vs H Q E, sp vs H Q E → vs.length = ps.length)
    (hbody : ∀ (cdv : Value) (A : Around) (outer : List Env) (s : Shared) (H : Hp) (vs : List V) (Q : VK) (E : XK), Room k (A.deeper (envOfC qual (defScope st) s.heap.objs.size f cdv)) → sp vs H Q E →
      ∃ t, PSs (cxOf (CXe P w) P w K mg base N qual (defScope st) f cdv A outer s H E) (defBody st) t ∧ t { nx := fun _ H' => Q .non H', rt := Q } (start N vs) H) : FnOk P w K mg base (CXe P w) (k + 1) f fd ps sp := by
  obtain ⟨oc, od, kV, doc, pm, an, cdv, ct, osl, rfl, lk, hcd⟩ := F.ex
  exact fn_of lk hcd S len fun A outer s H vs Q E hr hsp => hbody cdv A outer s H vs Q E hr hsp
end
end L2

set_option Elab.async false
set_option linter.all false
set_option maxRecDepth 100000
set_option maxHeartbeats 4000000
namespace L2
open PySem PySem.Spec PyProof.Rows

theorem ObjOk.ex {P : Program} {w : World} {H : Hp} {h : Heap} {a : Addr} {o : HO} (x : ObjOk P w H h a o) : ∃ u, h.get? a = some u := by
  cases o with
  | lst xs => obtain ⟨_, _, _, _, e⟩ := x; exact ⟨_, e⟩
  | tup xs => obtain ⟨_, _, _, ob, e, _⟩ := x; exact ⟨_, e⟩
  | dK kvs => obtain ⟨_, _, _, _, o, _, _, e, _⟩ := x; exact ⟨_, e⟩
  | dT kvs => obtain ⟨_, _, _, _, o, _, _, e, _⟩ := x; exact ⟨_, e⟩
  | set S n => obtain ⟨o, _, _, _, e, _⟩ := x; exact ⟨_, e⟩
  | ins C dx fs => obtain ⟨_, _, _, e, _⟩ := x; exact ⟨_, e⟩
  | own y => exact x
  | xd fs => obtain ⟨_, ⟨_, _, _, e, _⟩, _⟩ := x; exact ⟨_, e⟩
  | rng lo hi => obtain ⟨_, _, _, e⟩ := x; exact ⟨_, e⟩
  | frz ob u => obtain ⟨e, _⟩ := x; exact ⟨_, e⟩
  | tbl ps => exact ⟨_, x⟩
  | met f y => exact ⟨_, x⟩
  | ext φ => exact x.2.1
theorem HOk.none {P : Program} {w : World} {H : Hp} {h : Heap} {a : Addr} (x : HOk P w H h) (e : h.get? a = Option.none) : H a = Option.none := by
  cases q : H a with
  | none => rfl
  | some u => obtain ⟨o, z⟩ := (x a u q).ex; rw [e] at z; cases z
abbrev bmVE : List Value := [.type "ValueError", .type "Exception", .type "BaseException", .type "object"]
structure XCl (K : PySem.W.Frag) (C N : Addr) (bm : List Value) (ini : Option Value) : Prop where
  ob : ∃ nm q bs hdct sn sub ab col dd k0 k1 k2 k3 k5, K.lookup C = some (excClassObj nm q C N bs bm hdct sn sub ab col dd k0 k1 k2 k3 k5 "ValueError.__new__")
  ns : ∃ oc od es n sl, K.lookup N = some ⟨oc, od, .dict es n, sl⟩ ∧ (es.toList.all fun e => match e.key with | .str _ _ => true | _ => false) = true
  ini : PySem.W.nsIn K N "__init__" = some ini
def XTl (K : PySem.W.Frag) (bm : List Value) : Prop := bm = bmVE ∨ ∃ D ND, bm = .ref D :: bmVE ∧ XCl K D ND bmVE none
section
variable {K : PySem.W.Frag} {h : Heap} {C N : Addr} {bm : List Value} {ini : Option Value}
theorem XCl.names (x : XCl K C N bm ini) : ∃ m : Str → Option Value, m "__init__" = ini ∧ ∀ h, K.In h → h.Ns N m := by
  obtain ⟨oc, od, es, n, sl, lk, al⟩ := x.ns
  have sk : StrKeys es := fun e he => by
    have z := List.all_eq_true.mp al e (by simpa using he)
    revert z
    cases e.key <;> intro z <;> first | exact ⟨_, _, rfl⟩ | cases z
  refine ⟨nsFind es, ?_, fun h kin => ⟨_, es, n, kin _ _ lk, rfl, sk, fun _ => rfl⟩⟩
  have e := x.ini
  unfold PySem.W.nsIn at e
  rw [lk] at e
  dsimp only at e
  unfold nsFind findBy
  rw [← Array.find?_toList]
  cases q : es.toList.find? (·.key.isStr "__init__") with
  | some en =>
    rw [q] at e
    exact Option.some.inj e
  | none =>
    rw [q] at e
    dsimp only at e
    split at e
    · cases e
    · exact Option.some.inj e
theorem XCl.obj (x : XCl K C N bm ini) (kin : K.In h) : ∃ nm q bs hdct sn sub ab col dd k0 k1 k2 k3 k5, h.get? C = some (excClassObj nm q C N bs bm hdct sn sub ab col dd k0 k1 k2 k3 k5 "ValueError.__new__") := by
  obtain ⟨nm, q, bs, hdct, sn, sub, ab, col, dd, k0, k1, k2, k3, k5, e⟩ := x.ob
  exact ⟨nm, q, bs, hdct, sn, sub, ab, col, dd, k0, k1, k2, k3, k5, kin _ _ e⟩
theorem XTl.tail (x : XTl K bm) (kin : K.In h) : OwnTail h bmVE bm := by
  rcases x with rfl | ⟨D, ND, rfl, d⟩
  · exact .base
  · obtain ⟨nm, q, bs, hdct, sn, sub, ab, col, dd, k0, k1, k2, k3, k5, e⟩ := d.obj kin
    obtain ⟨m, mi, mn⟩ := d.names
    exact .own e (mn h kin) mi .base
theorem XTl.base (x : XTl K bm) : bm.contains (.type "BaseException") = true := by
  rcases x with rfl | ⟨D, ND, rfl, d⟩
  · decide
  · rw [List.contains_cons]; rfl
end

section
variable {P : Program} {w : World} {K : PySem.W.Frag} {mg : Str → Option Value} {base : Heap} {N0 : List Str} {qual : Str} {scope : Scope} {f : Addr} {cd : Value} {A : Around} {outer : List Env} {s0 : Shared} {H0 : Hp} {E : XK}
def tRaise (E : XK) (C : Addr) (t : TA) : TS := fun _ σ H => t σ H fun vs H1 => vs.length ≤ sizeLine ∧ E (.ref C) none H1
theorem ps_raise {X : Cx} (hX : X = cxOf (CXe P w) P w K mg base N0 qual scope f cd A outer s0 H0 E) {C N : Addr} {bm : List Value} {x : Str} {np cpos pos : Pos} {e : Expr} {es : List Expr} {t : TA} (c : XCl K C N bm none) (tl : XTl K bm)
    (hg : Gl X x) (hm : mg x = some (.ref C)) (ha : PA X (e :: es) t) (hdb : (x == ("__debug__" : Str)) = false := by decide) (he : starEach (e :: es) X.env = (false, eval e X.env) :: starEach es X.env := by rfl)
    (hpl : (backTo cpos (starEach es X.env)).any (·.1) = false := by rfl) : PS X (.Raise (some (.Call (.Name x np) (e :: es) [] cpos)) none pos) (tRaise E C t) := by
  intro pins s σ H D I h
  obtain ⟨nm, q, bs, hdct, sn, sub, ab, col, dd, k0, k1, k2, k3, k5, lk⟩ := c.ob
  obtain ⟨m, mi, mn⟩ := c.names
  have hx : X.xe = fun (e : Value) (s' : Shared) => wpAny (model X.prog X.w) X.A (leaving X.env e) (fun _ s'' => CXe X.prog X.w X.outer X.H₀ X.s₀ E e s'') (fun e' s'' => CXe X.prog X.w X.outer X.H₀ X.s₀ E e' s'') s' := by subst hX; rfl
  have hpl2 : (backTo cpos (starEach (e :: es) X.env)).any (·.1) = false := by rw [he]; exact hpl
  have hst : X.stack = X.env :: X.outer := by subst hX; rfl
  have hfm : X.env.frame = some X.env.locals := by subst hX; rfl
  have hex : X.ex = [] := by subst hX; rfl
  have hmg : X.mg x = some (.ref C) := by subst hX; exact hm
  have hcm : X.calm = true := by subst hX; rfl
  have hK : X.K = K := by subst hX; rfl
  refine wpAny_Raise_call_subU (C := C) (nm := nm) (q := q) (N := N) (bs := bs) (bm := bm) (hdct := hdct) (sn := sn) (sub := sub) (ab := ab) (col := col) (dd := dd) (k0 := k0) (k1 := k1) (k2 := k2) (k3 := k3) (k5 := k5) (newId := "ValueError.__new__")
    PySem.F.excBase_ValueError (by decide) PySem.F.excBase_ValueError (mN := m) tl.base (I.ok.hd hcm) hpl2 mi (ld_glob I hg hmg ⟨rfl, ?_⟩ hdb)
  have z := ha cpos pins s σ H _ I h
  rw [he] at z ⊢
  refine Calls.evalArgs_plain (thn z fun us s1 ⟨vs, H1, I1, r, hl, hE⟩ => ?_)
  have kin : K.In s1.heap := by rw [← hK]; exact I1.kIn
  refine ⟨rfl, by show us.length ≤ sizeLine; rw [← r.length]; exact hl, kin _ _ lk, mn _ kin, tl.tail kin, fun h' ea md => ?_⟩
  obtain ⟨ta, q1, _, _⟩ := md.there
  rw [hx]
  exact leaveX (fl := none) hst hfm hex I1 (I1.kept (t' := s1.toks) md.keeps) (fun b o q => ⟨o, md.keeps b o q⟩) ⟨I1.hok.none md.new, md.new, _, _, q1, rfl, rfl, rfl, rfl, rfl⟩ (.inl rfl) hE
end

section
abbrev TEx := St → Hp → VK → XK → Prop
abbrev TSx := Ends → XK → St → Hp → Prop
def XP (X : Cx) (pins : List (Addr × Obj)) (σ : St) (Ex : XK) (e : Value) (s' : Shared) : Prop :=
  ∃ ea C od H' s2 H2, e = .ref ea ∧ Inv X pins σ H2 s2 ∧ Inv X pins σ H' s' ∧ (∀ b o, s2.heap.get? b = some o → ∃ o', s'.heap.get? b = some o') ∧ Exc s2.heap H' s'.heap ea C od (some .none) ∧ Ex C od H'
def PEx (X : Cx) (e : Expr) (t : TEx) : Prop :=
  ∀ (pins : List (Addr × Obj)) (s : Shared) (σ : St) (H : Hp) (Q : VK) (Ex : XK), Inv X pins σ H s → t σ H Q Ex → wpAny (model X.prog X.w) X.A (eval e X.env) (EP X pins σ Q) (XP X pins σ Ex) s
def PSx (X : Cx) (st : Stmt) (t : TSx) : Prop :=
  ∀ (pins : List (Addr × Obj)) (s : Shared) (σ : St) (H : Hp) (D : Ends) (Ex : XK), Inv X pins σ H s → t D Ex σ H → wpAny (model X.prog X.w) X.A (exec st X.env) (SP X pins D) (XP X pins σ Ex) s
def PSsx (X : Cx) (st : List Stmt) (t : TSx) : Prop :=
  ∀ (pins : List (Addr × Obj)) (s : Shared) (σ : St) (H : Hp) (D : Ends) (Ex : XK), Inv X pins σ H s → t D Ex σ H → wpAny (model X.prog X.w) X.A (execs st X.env) (SP X pins D) (XP X pins σ Ex) s
variable {X : Cx} {k : Nat} {f C : Addr} {fd : FuncData} {ps : List Str} {sp : Sp} {dvs : List V} {ds : List Value} {x m : Str} {p pos apos : Pos} {e o : Expr} {es : List Expr} {ta : TE} {t : TA} {te : TEx}
theorem thnN {α : Type} {u : Sem α} {Q Q' : α → Shared → Prop} {M : Model} {A : Around} {E : Value → Shared → Prop} {s : Shared} (h : wpAny M A u Q (fun _ _ => False) s) (hQ : ∀ a s, Q a s → Q' a s) : wpAny M A u Q' E s := wpAny_mono h hQ fun _ _ z => z.elim
theorem run_fnx {pins : List (Addr × Obj)} {σ : St} {H : Hp} {s : Shared} {Q : VK} {Ex : XK} {us : List Value} {vs : List V} (F : FnOk X.prog X.w X.K X.mg X.base (CXe X.prog X.w) k f fd ps sp) (hr : Room k X.A) (hb : Binds X.K fd ps ds) (hd : Vals dvs ds)
    (I : Inv X pins σ H s) (r : Vals vs us) (h : sp (vs ++ dvs) H Q Ex) : wpAny (model X.prog X.w) X.A (call (.ref f) us) (EP X pins σ Q) (XP X pins σ Ex) s := by
  have r2 : Vals (vs ++ dvs) (us ++ ds) := r.append hd
  have hl : (us ++ ds).length = ps.length := by rw [← r2.length]; exact F.len _ _ _ _ h
  refine wpAny_call (codeAny_mono (F.run X.A X.stack s H ⟨us, []⟩ (us ++ ds) (vs ++ dvs) Q Ex hr I.env0 (hb s us I.kIn hl) r2 h) fun r s' hq => ?_)
  cases r with
  | error e =>
    obtain ⟨ea, C, od, H', rfl, os, bare, un, hok, y, hE⟩ := hq
    exact ⟨ea, C, od, H', s, H, rfl, I, I.call' os un hok bare (fun b z => nomatch z), fun b o q => un.there b o q (by simp), y, hE⟩
  | ok fl =>
    cases fl with
    | ret u => exact I.after hq
    | next => exact False.elim hq
    | brk => exact False.elim hq
    | cont => exact False.elim hq
def tCallx (sp : Sp) (dvs : List V) (t : TA) : TEx := fun σ H Q Ex => t σ H fun vs H1 => sp (vs ++ dvs) H1 Q Ex
theorem pex_call (F : FnOk X.prog X.w X.K X.mg X.base (CXe X.prog X.w) k f fd ps sp) (hr : Room k X.A) (hg : Gl X x) (hm : X.mg x = some (.ref f)) (hk : PySem.W.keepIn X.K (.ref f) = true) (hb : Binds X.K fd ps ds) (hd : Vals dvs ds)
    (ha : PA X.nox (e :: es) t) (hdb : (x == ("__debug__" : Str)) = false := by decide) (he : starEach (e :: es) X.env = (false, eval e X.env) :: starEach es X.env := by rfl) (hpl : (backTo pos (starEach es X.env)).any (·.1) = false := by rfl) :
    PEx X (.Call (.Name x p) (e :: es) [] pos) (tCallx sp dvs t) := by
  intro pins s σ H Q Ex I h
  refine wpAny_Call_Name_kw (ld_glob I hg hm ?_ hdb)
  refine PySem.W.callWith_K (h₀ := X.base) I.ok.mod.kin hk (thnN (ha pos pins s σ H _ (I.wish _) h) fun us s1 ⟨vs, H1, I1, r, q⟩ => ⟨I1.unwish.kIn, ?_⟩) he hpl
  exact run_fnx F hr hb hd I1.unwish r q
theorem psx_expr (he : PEx X e te) (hs : swapsWith e none pos.line X.env = pure false := by rfl) : PSx X (.Expr e pos) (fun D Ex σ H => te σ H (fun _ H1 => D.nx σ H1) Ex) := by
  intro pins s σ H D Ex I h
  exact wpAny_Expr_any (thn (he pins s σ H _ _ I h) fun v s1 ⟨x, H1, I1, r1, q1⟩ => ⟨σ, H1, I1, q1⟩) I.quiet hs
theorem psx_set {i : Nat} {pos' : Pos} (hN : X.N.Nodup) (hi : X.N[i]? = some x) (hx : Loc X.env.scope x) (he : PEx X e te) (hs : swapsWith e (some (.Name x pos')) pos.line X.env = pure false := by rfl) (hf : X.fn x = true ∨ X.env.scope.names.lookup x = some .local := by first | exact .inl rfl | exact .inr rfl | assumption) :
    PSx X (.Assign [.Name x pos'] e pos) (fun D Ex σ H => te σ H (fun v H1 => D.nx (σ.set i (some v)) H1) Ex) := by
  intro pins s σ H D Ex I h
  refine wpAny_Assign_Name (thn (he pins s σ H _ _ I h) fun v s1 ⟨y, H1, I1, r1, q1⟩ => ?_) hs
  exact store_ok I1 hN hi hx r1 (fun s2 I2 => ⟨_, H1, I2, q1⟩) hf
theorem pssx_one {st : Stmt} {ts : TSx} (h1 : PSx X st ts) : PSsx X [st] ts := by
  intro pins s σ H D Ex I h
  refine wpAny_execs_cons (thn (h1 pins s σ H D Ex I h) fun f s1 q => ?_)
  cases f with
  | next => exact wpAny_execs_nil q
  | ret v => exact q
  | brk => exact q
  | cont => exact q
end
end L2

set_option Elab.async false
set_option linter.all false
set_option maxRecDepth 100000
set_option maxHeartbeats 4000000
namespace L2
open PySem PySem.Spec PyProof.Rows
def xcO (e : Addr) (C : Value) (od : Option Addr) : HO := .ext fun h => ∃ o vs, h.get? e = some o ∧ o.cls = C ∧ o.dict = od ∧ o.data = .fields vs ∧ vs[2]? = some .none
theorem xc_stable {e : Addr} {C : Value} {od : Option Addr} : ∀ h1 h2 : Heap, (∃ o vs, h1.get? e = some o ∧ o.cls = C ∧ o.dict = od ∧ o.data = .fields vs ∧ vs[2]? = some .none) → (∀ o, h1.get? e = some o → h2.get? e = some o) → ∃ o vs, h2.get? e = some o ∧ o.cls = C ∧ o.dict = od ∧ o.data = .fields vs ∧ vs[2]? = some .none :=
  fun _ _ ⟨o, vs, q, r⟩ k => ⟨o, vs, k o q, r⟩
theorem xc_ok {P : Program} {w : World} {H : Hp} {h : Heap} {e : Addr} {C : Value} {od : Option Addr} (x : ∃ o vs, h.get? e = some o ∧ o.cls = C ∧ o.dict = od ∧ o.data = .fields vs ∧ vs[2]? = some .none) : ObjOk P w H h e (xcO e C od) :=
  ⟨x, (let ⟨o, _, q, _⟩ := x; ⟨o, q⟩), xc_stable⟩

section
variable {X : Cx} {pins : List (Addr × Obj)} {σ σ' : St} {H H' : Hp} {s s1 : Shared}
theorem Inv.track {a : Addr} {o : HO} (I : Inv X pins σ H s) (J : Inv X pins σ' H' s1) (hex : X.ex = []) (hn : H' a = none) (hw : s.heap.get? a = none) (new : ObjOk X.prog X.w (upd H' a o) s1.heap a o) : Inv X pins σ' (upd H' a o) s1 := by
  have ne : ∀ b u, s.heap.get? b = some u → b ≠ a := fun b u e z => by rw [z, hw] at e; cases e
  have ne0 : ∀ b u, X.s₀.heap.get? b = some u → b ≠ a := fun b u e => let ⟨o', e'⟩ := I.base.there b u e (by rw [hex]; simp); ne b o' e'
  refine ⟨J.ok, J.os, J.bare, ⟨J.base.keep, J.base.slot, fun b u e n hx => ?_, J.base.there, fun b xs e => ?_, fun b u v e => ?_, fun b ps e => ?_⟩, J.loc, J.cell, ?_, fun x c e => ?_, fun p hp => ?_, fun b u e => ?_, J.len⟩
  · rw [upd_ne (ne0 b u e)]; exact J.base.free b u e n hx
  · have z := J.base.tups b xs e
    rw [upd_ne (ne_of_none z hn)]; exact z
  · have z := J.base.frzs b u v e
    rw [upd_ne (ne_of_none z hn)]; exact z
  · obtain ⟨more, z⟩ := J.base.tbls b ps e
    exact ⟨more, by rw [upd_ne (ne_of_none z hn)]; exact z⟩
  · obtain ⟨m, ⟨oL, _, _, eL, _⟩, _⟩ := I.loc
    rw [upd_ne (ne _ _ eL)]; exact J.free
  · obtain ⟨v, oc, ec, _⟩ := I.cell x c e
    rw [upd_ne (ne _ _ ec)]; exact J.freeC x c e
  · obtain ⟨e0, _⟩ := I.pin p hp
    obtain ⟨e1, n1, r⟩ := J.pin p hp
    exact ⟨e1, by rw [upd_ne (ne _ _ e0)]; exact n1, r⟩
  · by_cases hb : b = a
    · subst hb; rw [upd_same] at e; cases e; exact new
    · rw [upd_ne hb] at e
      exact (J.hok b u e).stay (fun c v _ q => q) (fun c q => by rw [upd_ne (ne_of_none q hn)]; exact q) fun c xs q => by rw [upd_ne (ne_of_none q hn)]; exact q
theorem Inv.gone {i : Nat} {n : Str} {h' : Heap} {v : Option Value} {tk : Nat} {m : Str → Option Value} (I : Inv X pins σ H s) (hN : X.N.Nodup) (hi : X.N[i]? = some n)
    (hm : s.heap.Ns X.env.locals m) (hn : h'.Ns X.env.locals (fun x => if x = n then v else m x)) (hs : Heap.SameBut X.env.locals s.heap h') : Inv X pins (σ.set i none) H { s with heap := h', toks := tk } := by
  obtain ⟨m0, hn0, hl⟩ := I.loc
  have em : m0 = m := by
    obtain ⟨o1, es1, ep1, q1, d1, _, f1⟩ := hn0
    obtain ⟨o2, es2, ep2, q2, d2, _, f2⟩ := hm
    rw [q1] at q2
    cases q2
    rw [d1] at d2
    cases d2
    funext x
    rw [← f1, ← f2]
  subst em
  have hil : i < σ.length := by rw [I.len]; exact (List.getElem?_eq_some_iff.mp hi).1
  have ab : ∀ b o, X.s₀.heap.get? b = some o → b ≠ X.env.locals := fun b o e => Nat.ne_of_lt (Nat.lt_of_lt_of_le (Heap.lt_size e) I.ok.above)
  have hk : HOk X.prog X.w H h' := fun b ob e => by
    refine (I.hok b ob e).stay (fun c w' hc q => (hs.2 c ?_).trans q) (fun _ q => q) fun _ _ q => q
    rintro rfl
    rcases hc with rfl | hc
    · rw [I.free] at e; cases e
    · rw [I.free] at hc; cases hc
  refine ⟨I.ok, I.os, I.bare, ⟨fun b o e n hb hx => (hs.2 b (ab b o e)).trans (I.base.keep b o e n hb hx), fun b o e n hb hx => ?_, I.base.free, fun b o e hx => ?_, I.base.tups, I.base.frzs, I.base.tbls⟩, ⟨_, hn, fun j y u e1 e2 e3 => ?_⟩, fun y c e => ?_, I.free, I.freeC, fun p hp => ?_, hk, by simpa using I.len⟩
  · obtain ⟨sl, e1⟩ := I.base.slot b o e n hb hx
    exact ⟨sl, (hs.2 b (ab b o e)).trans e1⟩
  · obtain ⟨o', e1⟩ := I.base.there b o e hx
    exact ⟨o', (hs.2 b (ab b o e)).trans e1⟩
  · by_cases hj : j = i
    · subst hj
      rw [List.getElem?_set_self hil] at e2
      cases e2
    · rw [List.getElem?_set_ne (Ne.symm hj)] at e2
      obtain ⟨u', r', q⟩ := hl j y u e1 e2 e3
      refine ⟨u', r', ?_⟩
      have hne : y ≠ n := fun z => hj (nodup_ix hN e1 (z ▸ hi))
      rcases q with ⟨k, e⟩ | ⟨k, c, e, z⟩
      · exact .inl ⟨k, by simp [hne, e]⟩
      · exact .inr ⟨k, c, e, z.sameBut hs (I.cne y c e)⟩
  · obtain ⟨w', z⟩ := I.cell y c e
    exact ⟨w', z.sameBut hs (I.cne y c e)⟩
  · obtain ⟨e, n, ne, nf, d⟩ := I.pin p hp
    exact ⟨(hs.2 p.1 ne).trans e, n, ne, nf, d⟩
end

section
variable {M : Model} {A : Around} {E : Value → Shared → Prop} {K : PySem.W.Frag} {s : Shared} {C D N N' ea : Addr} {bm bm' : List Value} {ini ini' : Option Value} {Q : Bool → Shared → Prop}
theorem exc_matches {oe : Obj} (kin : K.In s.heap) (c : XCl K C N bm ini) (d : XCl K D N' bm' ini') (td : XTl K bm') (he : s.heap.get? ea = some oe) (hc : oe.cls = .ref C) (h : Q ((Value.ref C :: bm).contains (.ref D)) s) :
    wpAny M A (excMatches (.ref ea) (.ref D)) Q E s := by
  obtain ⟨nm, q, bs, hdct, sn, sub, ab, col, dd, k0, k1, k2, k3, k5, lc⟩ := c.obj kin
  obtain ⟨nm', q', bs', hdct', sn', sub', ab', col', dd', k0', k1', k2', k3', k5', ld⟩ := d.obj kin
  have hB : (Value.ref D :: bm').contains (.type "BaseException") = true := by rw [List.contains_cons, td.base]; rfl
  have f := tc_notTuple
  obtain ⟨hp, g, dr, tk, os⟩ := s
  unfold excMatches
  repeat (first | (with_reducible refine wpAny_loadPart_at he ?_; rw [hc]) | with_reducible refine wpAny_loadPart_at ld ?_ | (with_reducible refine wpAny_isSubtype_exc ld ?_; rw [hB]) | with_reducible refine wpAny_isSubtype_exc lc ?_ | wp_step)
  cases hb : (Value.ref C :: bm).contains (.ref D) <;> (rw [hb] at h; wp_walk; exact h)
end
abbrev Cx.han (X : Cx) (ea : Addr) : Cx := { X with A := X.A.mark (some (.ref ea)), calm := false, xe := fun _ _ => False }
section
variable {X : Cx} {pins : List (Addr × Obj)} {σ : St} {H : Hp} {s : Shared} {ea : Addr}
theorem Cx.Ok.han (ok : X.Ok) (ea : Addr) : (X.han ea).Ok :=
  ⟨ok.mod, ok.kind, ok.glob, ok.blt, ok.above, ok.inj, ok.has, ok.cab, (fun z => nomatch (show false = true from z)), ok.frames, ok.stk, ok.exf, ok.bs, ok.bsz, ok.noex, ok.exfs, ok.funs, ok.frf⟩
theorem Inv.han (I : Inv X pins σ H s) (ea : Addr) : Inv (X.han ea) pins σ H s := ⟨I.ok.han ea, I.os, I.bare, I.base, I.loc, I.cell, I.free, I.freeC, I.pin, I.hok, I.len⟩
theorem Inv.unhan (ok : X.Ok) (I : Inv (X.han ea) pins σ H s) : Inv X pins σ H s := ⟨ok, I.os, I.bare, I.base, I.loc, I.cell, I.free, I.freeC, I.pin, I.hok, I.len⟩

abbrev TH := Addr → Value → Option Addr → TS
def PHs (X : Cx) (hs : List ExceptHandler) (t : TH) : Prop :=
  ∀ (pins : List (Addr × Obj)) (s : Shared) (σ : St) (H : Hp) (D : Ends) (ea : Addr) (C : Value) (od : Option Addr) (s2 : Shared) (H2 : Hp), Inv X pins σ H2 s2 → Inv X pins σ H s → (∀ b o, s2.heap.get? b = some o → ∃ o', s.heap.get? b = some o') →
    Exc s2.heap H s.heap ea C od (some .none) → t ea C od D σ H → wpAny (model X.prog X.w) X.A (handleBy (.ref ea) X.env hs) (SP X pins D) X.xe s
theorem ph_nil : PHs X [] (fun _ _ _ _ _ _ => False) := fun _ _ _ _ _ _ _ _ _ _ _ _ _ _ h => h.elim

def tHand (K : PySem.W.Frag) (Dc : Addr) (i : Nat) (tb : Addr → TS) (tr : TH) : TH := fun ea C od D σ H => ∃ Cc N bm ini, C = .ref Cc ∧ XCl K Cc N bm ini ∧
  if (Value.ref Cc :: bm).contains (.ref Dc) = true then tb ea { nx := fun σ' H' => D.nx (σ'.set i none) H', rt := D.rt, bk := fun σ' H' => D.bk (σ'.set i none) H', ct := fun σ' H' => D.ct (σ'.set i none) H' } (σ.set i (some (.ref ea))) (upd H ea (xcO ea C od)) else tr ea C od D σ H
theorem ph_as {i : Nat} {x n : Str} {np hpos : Pos} {b₀ : Stmt} {suite : List Stmt} {rest : List ExceptHandler} {Dc ND : Addr} {bmD : List Value} {iniD : Option Value} {tb : Addr → TS} {tr : TH} (hex : X.ex = []) (hg : Gl X x) (hm : X.mg x = some (.ref Dc))
    (d : XCl X.K Dc ND bmD iniD) (td : XTl X.K bmD) (hN : X.N.Nodup) (hi : X.N[i]? = some n) (hl : X.env.scope.names.lookup n = some .local) (hb : ∀ ea, PSs (X.han ea) (b₀ :: suite) (tb ea)) (hr : PHs X rest tr)
    (hdb : (x == ("__debug__" : Str)) = false := by decide) : PHs X (.ExceptHandler (some (.Name x np)) (some n) (b₀ :: suite) hpos :: rest) (tHand X.K Dc i tb tr) := by
  rintro pins s σ H D ea C od s2 H2 I2 J ht y ⟨Cc, N, bm, ini, rfl, c, q⟩
  obtain ⟨fr, nw, oe, vs, he, hc, hdi, hd, fa⟩ := id y
  refine wpAny_handleBy_cons (codeAny_handlers_test (ld_glob (X := X.han ea) (J.han ea) hg hm ?_ hdb)) (by intro z; cases z)
  refine exc_matches J.kIn c d td he hc ?_
  cases hb2 : (Value.ref Cc :: bm).contains (.ref Dc) with
  | false =>
    rw [hb2, if_neg Bool.false_ne_true] at q
    exact hr pins s σ H D ea _ od s2 H2 I2 J ht y q
  | true =>
    rw [hb2, if_pos rfl] at q
    refine codeAny_handlers_suite_as ?_
    refine land_exc y fun h1 ch hch mv y1 => ?_
    have J1 := I2.mv J (mv.mono (fun b z => nomatch z) fun b z => z) hch
    obtain ⟨fr1, nw1, oe1, vs1, he1, hc1, hdi1, hd1, fa1⟩ := id y1
    have J2 := I2.track J1 (o := xcO ea (.ref Cc) od) hex fr1 nw1 (xc_ok ⟨oe1, vs1, he1, hc1, hdi1, hd1, fa1.cx⟩)
    refine store_ok J2 hN hi (.inl hl) (show RelV (.ref ea) (.ref ea) from rfl) (fun s3 J3 => ?_) (.inr hl)
    refine wpAny_mono (hb ea pins s3 _ _ _ (J3.han ea) q) (fun f s4 r => ?_) fun _ _ z => z.elim
    have hp : (X.env.scope.kind == .class || (X.env.scope.kind == .module && X.env.locals != X.env.globals)) = false := by rw [J.ok.kind]; rfl
    have go : ∀ {σ' : St} {H' : Hp} {Q : Unit → Shared → Prop}, Inv (X.han ea) pins σ' H' s4 → (∀ s5, Inv X pins (σ'.set i none) H' s5 → Q () s5) → wpAny (model X.prog X.w) X.A (do bindName X.env n .none; unbindBehindTheSuite X.env n hpos) Q X.xe s4 := fun {σ' H' Q} I4 k => by
      have I5 := I4.unhan J.ok
      obtain ⟨m, hn, _⟩ := id I5.loc
      exact wpAny_nameGoes_keeps hl hn hp fun h' v hn' hs => k _ (I5.gone hN hi hn hn' hs)
    cases f with
    | next => obtain ⟨σ', H', I4, q4⟩ := r; exact go I4 fun s5 I5 => ⟨_, H', I5, q4⟩
    | brk => obtain ⟨σ', H', I4, q4⟩ := r; exact go I4 fun s5 I5 => ⟨_, H', I5, q4⟩
    | cont => obtain ⟨σ', H', I4, q4⟩ := r; exact go I4 fun s5 I5 => ⟨_, H', I5, q4⟩
    | ret u => obtain ⟨v, σ', H', I4, rv, q4⟩ := r; exact go I4 fun s5 I5 => ⟨v, _, H', I5, rv, q4⟩
def tHand0 (K : PySem.W.Frag) (Dc : Addr) (tb : Addr → TS) (tr : TH) : TH := fun ea C od D σ H => ∃ Cc N bm ini, C = .ref Cc ∧ XCl K Cc N bm ini ∧
  if (Value.ref Cc :: bm).contains (.ref Dc) = true then tb ea D σ (upd H ea (xcO ea C od)) else tr ea C od D σ H
theorem ph_no {x : Str} {np hpos : Pos} {b₀ : Stmt} {suite : List Stmt} {rest : List ExceptHandler} {Dc ND : Addr} {bmD : List Value} {iniD : Option Value} {tb : Addr → TS} {tr : TH} (hex : X.ex = []) (hg : Gl X x) (hm : X.mg x = some (.ref Dc))
    (d : XCl X.K Dc ND bmD iniD) (td : XTl X.K bmD) (hb : ∀ ea, PSs (X.han ea) (b₀ :: suite) (tb ea)) (hr : PHs X rest tr)
    (hdb : (x == ("__debug__" : Str)) = false := by decide) : PHs X (.ExceptHandler (some (.Name x np)) none (b₀ :: suite) hpos :: rest) (tHand0 X.K Dc tb tr) := by
  rintro pins s σ H D ea C od s2 H2 I2 J ht y ⟨Cc, N, bm, ini, rfl, c, q⟩
  obtain ⟨fr, nw, oe, vs, he, hc, hdi, hd, fa⟩ := id y
  refine wpAny_handleBy_cons (codeAny_handlers_test (ld_glob (X := X.han ea) (J.han ea) hg hm ?_ hdb)) (by intro z; cases z)
  refine exc_matches J.kIn c d td he hc ?_
  cases hb2 : (Value.ref Cc :: bm).contains (.ref Dc) with
  | false =>
    rw [hb2, if_neg Bool.false_ne_true] at q
    exact hr pins s σ H D ea _ od s2 H2 I2 J ht y q
  | true =>
    rw [hb2, if_pos rfl] at q
    refine codeAny_handlers_suite ?_
    refine land_exc y fun h1 ch hch mv y1 => ?_
    have J1 := I2.mv J (mv.mono (fun b z => nomatch z) fun b z => z) hch
    obtain ⟨fr1, nw1, oe1, vs1, he1, hc1, hdi1, hd1, fa1⟩ := id y1
    have J2 := I2.track J1 (o := xcO ea (.ref Cc) od) hex fr1 nw1 (xc_ok ⟨oe1, vs1, he1, hc1, hdi1, hd1, fa1.cx⟩)
    refine wpAny_mono (hb ea pins _ _ _ _ (J2.han ea) q) (fun f s4 r => ?_) fun _ _ z => z.elim
    cases f with
    | next => obtain ⟨σ', H', I4, q4⟩ := r; exact ⟨_, H', I4.unhan J.ok, q4⟩
    | brk => obtain ⟨σ', H', I4, q4⟩ := r; exact ⟨_, H', I4.unhan J.ok, q4⟩
    | cont => obtain ⟨σ', H', I4, q4⟩ := r; exact ⟨_, H', I4.unhan J.ok, q4⟩
    | ret u => obtain ⟨v, σ', H', I4, rv, q4⟩ := r; exact ⟨v, _, H', I4.unhan J.ok, rv, q4⟩
def tTryX (tb : TSx) (th : TH) (to : TS) : TS := fun D σ H => tb { D with nx := fun σ1 H1 => to D σ1 H1 } (fun C od H' => ∀ ea, H' ea = none → th ea C od D σ H') σ H
theorem ps_tryX {body orelse : List Stmt} {h₀ : ExceptHandler} {hs : List ExceptHandler} {pos : Pos} {tb : TSx} {th : TH} {to : TS} (hst : X.stack = X.env :: X.outer) (hfm : X.env.frame = some X.env.locals) (hb : PSsx X body tb) (hh : PHs X (h₀ :: hs) th) (ho : PSs X orelse to) :
    PS X (.Try body (h₀ :: hs) orelse [] pos) (tTryX tb th to) := by
  intro pins s σ H D I h
  refine wpAny_Try_except (wpAny_mono (hb pins s σ H _ _ I h) (fun f s1 q => ?_) fun e s1 q => ?_)
  · cases f with
    | next => obtain ⟨σ1, H1, I1, q1⟩ := q; exact ho pins s1 σ1 H1 D I1 q1
    | ret u => exact q
    | brk => exact q
    | cont => exact q
  · obtain ⟨ea, C, od, H', s2, H2, rfl, I2, J, ht, y, hE⟩ := q
    have hl := J.stack
    rw [hst] at hl
    refine note_exc (J.ok.frames.trans (by rw [hst])) hl hfm y (.inr (.inl rfl)) ht (fun b hb => J.hok.fresh hb) fun h1 ch hc m y1 => ?_
    have J1 := I2.mv J (h' := h1) (by rw [hst]; exact m) hc
    have ht1 : ∀ b o, s2.heap.get? b = some o → ∃ o', h1.get? b = some o' := fun b o q => let ⟨o', q'⟩ := ht b o q; m.there b o' q'
    refine land_exc y1 fun h2 ch2 hc2 m2 y2 => ?_
    have J2 := I2.mv J1 (h' := h2) (m2.mono (fun b z => nomatch z) fun b z => z) hc2
    exact hh pins _ σ H' D ea C od s2 H2 I2 J2 (fun b o q => let ⟨o', q'⟩ := ht1 b o q; m2.there b o' q') y2 (hE ea y2.fr)
end
end L2

set_option Elab.async false
set_option linter.all false
set_option maxRecDepth 100000
set_option maxHeartbeats 1000000
namespace L2
open PySem PySem.Spec PyProof.Rows PySem.Builtin PySem.Builtin.ObjectAttr
structure XAt (K : PySem.W.Frag) (C : Addr) (f : Str) : Prop where
  no : PySem.W.findIn K (.ref C) f = some none
  sa : PySem.W.findIn K (.ref C) "__setattr__" = some (some (.builtin "object.__setattr__"))
  ga : PySem.W.findIn K (.ref C) "__getattribute__" = some (some (.builtin "BaseException.__getattribute__"))
  gx : PySem.W.findIn K (.ref C) "__getattr__" = some none
  hd : PySem.W.hasDictIn K C = true
section
variable {P : Program} {w : World} {A : Around} {E : Value → Shared → Prop} {s : Shared} {K : PySem.W.Frag} {C N x : Addr} {bm : List Value} {ini : Option Value} {f : Str} {v : Value} {ox : Obj} {vs : Array Value}
theorem XCl.cls (c : XCl K C N bm ini) (h : PySem.W.hasDictIn K C = true) : ∃ cd, PySem.W.clsIn K C = some cd ∧ cd.mro = .ref C :: bm ∧ cd.hasDict = true := by
  obtain ⟨nm, q, bs, hdct, sn, sub, ab, col, dd, k0, k1, k2, k3, k5, lk⟩ := c.ob
  obtain ⟨cd, hc, hd⟩ := PySem.W.any_some h
  refine ⟨cd, hc, ?_, hd⟩
  unfold PySem.W.clsIn at hc
  rw [lk] at hc
  cases hc
  rfl
end
end L2

set_option Elab.async false
set_option linter.all false
set_option maxRecDepth 100000
set_option maxHeartbeats 1000000
namespace L2
open PySem PySem.Spec PyProof.Rows PySem.Builtin PySem.Builtin.ObjectAttr

section
variable {P : Program} {w : World} {A : Around} {E : Value → Shared → Prop} {K : PySem.W.Frag} {C N fI : Addr} {bm : List Value} {us : List Value}
end
end L2

set_option Elab.async false
set_option linter.all false
set_option maxRecDepth 100000
set_option maxHeartbeats 1000000
namespace L2
open PySem PySem.Spec PyProof.Rows PySem.Builtin PySem.Builtin.ObjectAttr
def xmO (e : Addr) (C : Value) (od : Option Addr) : HO := .ext fun h => ∃ o vs, h.get? e = some o ∧ o.cls = C ∧ o.dict = od ∧ o.data = .fields vs ∧ vs[1]? = some .none ∧ vs[2]? = some .none
def xdO (d : Addr) (fs : List (Str × V)) : HO := .ext fun h => ∃ mA, h.Ns1 d mA ∧ (∀ g, RelO (fs.lookup g) (mA g)) ∧ PySem.Within mA (fs.map (·.1))
section
variable {X : Cx} {pins : List (Addr × Obj)} {σ : St} {H : Hp} {s : Shared} {a : Addr} {φ : Heap → Prop}
end
section
variable {X : Cx} {e : Expr} {te : TE} {pos : Pos}
end

section
variable {X : Cx} {C N D fI : Addr} {bm : List Value} {ini : Option Value} {x f : Str} {np ap pos cpos pos' : Pos} {e o value a1 a2 : Expr} {es : List Expr} {t : TA} {ta tv te : TE}
structure XIn (K : PySem.W.Frag) (D : Addr) : Prop where
  sp : PySem.W.specialIn K (.ref D) "__getattribute__" = some (some (.builtin "type.__getattribute__"))
  rd : PySem.W.readsIn K D (.type "type") = true
  fc : PySem.W.findCls K (.ref D) (.type "type") "__init__" = some (.val (.builtin "ValueError.__init__"))
end

section
variable {P : Program} {w : World} {K : PySem.W.Frag} {mg : Str → Option Value} {base : Heap} {N0 : List Str} {qual : Str} {scope : Scope} {f : Addr} {cd : Value} {A : Around} {outer : List Env} {s0 : Shared} {H0 : Hp} {E : XK}
end
end L2

set_option Elab.async false
set_option linter.all false
set_option maxRecDepth 100000
set_option maxHeartbeats 1000000
namespace L2
open PySem PySem.Spec PyProof.Rows
structure RoomM (k : Nat) (A : Around) : Prop where
  dp : A.depth + 3 * k + 5 < recursionLimit
  un : A.units + 16 * k + 200 < cLine
theorem Room.m {k : Nat} {A : Around} (r : Room k A) : RoomM k A := ⟨r.dp, r.un⟩
theorem RoomM.mark {k : Nat} {A : Around} (r : RoomM k A) (h : Option Value) : RoomM k (A.mark h) := ⟨r.dp, r.un⟩
theorem RoomM.mono {j k : Nat} {A : Around} (r : RoomM k A) (h : j ≤ k) : RoomM j A := ⟨by have := r.dp; omega, by have := r.un; omega⟩
theorem RoomM.deeper {k : Nat} {A : Around} (r : RoomM (k + 1) A) (env : Env) : RoomM k (A.deeper env) :=
  ⟨by have := r.dp; show A.depth + 1 + 3 * k + 5 < _; omega, by have := r.un; show A.units + 3 + 16 * k + 200 < _; omega⟩
theorem RoomM.units0 {k : Nat} {A : Around} (r : RoomM k A) : A.units < cLine := by have := r.un; omega
theorem RoomM.hu {k : Nat} {A : Around} (r : RoomM k A) : A.units + 1 < cLine := by have := r.un; omega
structure FnOkM (P : Program) (w : World) (K : PySem.W.Frag) (mg : Str → Option Value) (base : Heap) (k : Nat) (f : Addr) (fd : FuncData) (ps : List Str) (sp : Sp) : Prop where
  len : ∀ vs H Q E, sp vs H Q E → vs.length = ps.length
  run : ∀ (A : Around) (outer : List Env) (s : Shared) (H : Hp) (args : Args) (us : List Value) (vs : List V) (Q : VK) (E : XK), RoomM k A → Env0 P w K mg base A outer s H → BindsTo s fd args (ps.zip us) → Vals vs us → sp vs H Q E →
    codeAny (model P w) A (.call (.ref f) args) (CR CX0 outer P w H s Q E) s
theorem FnOkM.fn {P : Program} {w : World} {K : PySem.W.Frag} {mg : Str → Option Value} {base : Heap} {k : Nat} {f : Addr} {fd : FuncData} {ps : List Str} {sp : Sp} (F : FnOkM P w K mg base k f fd ps sp) : FnOk P w K mg base CX0 k f fd ps sp :=
  ⟨F.len, fun A outer s H args us vs Q E hr => F.run A outer s H args us vs Q E hr.m⟩
section
variable {P : Program} {w : World} {K : PySem.W.Frag} {mg : Str → Option Value} {base : Heap}
theorem FunD.okE {x qual : Str} {st : Stmt} {f : Addr} {fd : FuncData} {dV : Value} {N ps : List Str} {k : Nat} {sp : Sp} (F : FunD K x qual st f fd dV) (S : FnScope N ps (defScope st)) (len : ∀ vs H Q E, sp vs H Q E → vs.length = ps.length)
    (hbody : ∀ (cdv : Value) (A : Around) (outer : List Env) (s : Shared) (H : Hp) (vs : List V) (Q : VK) (E : XK), Room k (A.deeper (envOfC qual (defScope st) s.heap.objs.size f cdv)) → sp vs H Q E →
      ∃ t, PSs (cxOf (CXe P w) P w K mg base N qual (defScope st) f cdv A outer s H E) (defBody st) t ∧ t { nx := fun _ H' => Q .non H', rt := Q } (start N vs) H) : FnOk P w K mg base (CXe P w) (k + 1) f fd ps sp := by
  obtain ⟨oc, od, kV, doc, pm, an, cdv, ct, osl, rfl, lk, hcd⟩ := F.ex
  exact fn_of lk hcd S len fun A outer s H vs Q E hr hsp => hbody cdv A outer s H vs Q E hr hsp
end
section
variable {X : Cx} {k : Nat} {f : Addr} {fd : FuncData} {ps : List Str} {sp : Sp} {x : Str} {p pos : Pos} {e : Expr} {es : List Expr} {t : TA}
end
end L2

set_option Elab.async false
set_option linter.all false
set_option maxRecDepth 100000
set_option maxHeartbeats 4000000
namespace L2
open PySem PySem.Spec PyProof.Rows


section
variable {κ : Type} [DecidableEq κ]
def valV (kvs : List (κ × V)) (k : κ) : Option V := (kvs.find? fun kv => decide (kv.1 = k)).map (·.2)

def putK (kvs : List (κ × V)) (k : κ) (v : V) : List (κ × V) :=
  if (kvs.any fun kv => decide (kv.1 = k)) = true then kvs.map (fun kv => if kv.1 = k then (kv.1, v) else kv) else kvs ++ [(k, v)]
def dropK (kvs : List (κ × V)) (k : κ) : List (κ × V) := kvs.filter fun kv => decide (kv.1 ≠ k)

theorem valV_pos {p : κ × V} {r : List (κ × V)} {k : κ} (e : p.1 = k) : valV (p :: r) k = some p.2 := by simp [valV, List.find?_cons, e]
theorem valV_neg {p : κ × V} {r : List (κ × V)} {k : κ} (e : ¬ p.1 = k) : valV (p :: r) k = valV r k := by simp [valV, List.find?_cons, e]
theorem valV_any (k : κ) : ∀ kvs : List (κ × V), (kvs.any fun kv => decide (kv.1 = k)) = (valV kvs k).isSome
  | [] => rfl
  | p :: r => by
    rw [List.any_cons]
    by_cases e : p.1 = k
    · simp only [valV_pos e, decide_eq_true e, Bool.true_or, Option.isSome_some]
    · rw [valV_neg e, decide_eq_false e, Bool.false_or]; exact valV_any k r
theorem RelO.isSome_eq {o : Option V} {u : Option Value} (r : RelO o u) : o.isSome = u.isSome := by
  cases o with
  | none => cases u with
    | none => rfl
    | some _ => exact (show False from r).elim
  | some _ => cases u with
    | none => exact (show False from r).elim
    | some _ => rfl
theorem RelO.getD {o : Option V} {u : Option Value} {d : V} {d' : Value} (r : RelO o u) (rd : RelV d d') : RelV (o.getD d) (u.getD d') := by
  cases o with
  | none => cases u with
    | none => exact rd
    | some _ => exact (show False from r).elim
  | some _ => cases u with
    | none => exact (show False from r).elim
    | some _ => exact r


theorem KV.val {kvs : List (κ × V)} {vs : List (κ × Value)} (r : KV kvs vs) (k : κ) : RelO (valV kvs k) (valueAt vs k) := by
  unfold KV at r
  induction r with
  | nil => exact True.intro
  | @cons p q ps qs h t ih =>
    obtain ⟨h1, h2⟩ := h
    by_cases e : p.1 = k
    · have e' : q.1 = k := h1.symm.trans e
      have b : valueAt (q :: qs) k = some q.2 := by simp [valueAt, List.find?_cons, e']
      rw [valV_pos e, b]; exact h2
    · have e' : ¬ q.1 = k := fun z => e (h1.trans z)
      have b : valueAt (q :: qs) k = valueAt qs k := by simp [valueAt, List.find?_cons, e']
      rw [valV_neg e, b]; exact ih
theorem KV.any {kvs : List (κ × V)} {vs : List (κ × Value)} (r : KV kvs vs) (k : κ) : (kvs.any fun kv => decide (kv.1 = k)) = vs.any fun kv => decide (kv.1 = k) := by
  unfold KV at r
  induction r with
  | nil => rfl
  | cons h t ih => rw [List.any_cons, List.any_cons, ih, h.1]
theorem KV.repl {kvs : List (κ × V)} {vs : List (κ × Value)} (r : KV kvs vs) (k : κ) {y : V} {u : Value} (ry : RelV y u) :
    KV (kvs.map fun kv => if kv.1 = k then (kv.1, y) else kv) (vs.map fun kv => if kv.1 = k then (kv.1, u) else kv) := by
  unfold KV at r ⊢
  induction r with
  | nil => exact .nil
  | @cons p q ps qs h t ih =>
    rw [List.map_cons, List.map_cons]
    refine .cons ?_ ih
    obtain ⟨h1, h2⟩ := h
    by_cases e : p.1 = k
    · rw [if_pos e, if_pos (h1.symm.trans e)]; exact ⟨h1, ry⟩
    · rw [if_neg e, if_neg (fun z => e (h1.trans z))]; exact ⟨h1, h2⟩
theorem KV.put {kvs : List (κ × V)} {vs : List (κ × Value)} (r : KV kvs vs) (k : κ) {y : V} {u : Value} (ry : RelV y u) : KV (putK kvs k y) (stored vs k u) := by
  unfold putK stored
  rw [r.any k]
  by_cases e : (vs.any fun kv => decide (kv.1 = k)) = true
  · rw [if_pos e, if_pos e]; exact r.repl k ry
  · rw [if_neg e, if_neg e]; exact Paired.snoc r ⟨rfl, ry⟩
theorem KV.drop {kvs : List (κ × V)} {vs : List (κ × Value)} (r : KV kvs vs) (k : κ) : KV (dropK kvs k) (without vs k) := by
  unfold KV at r ⊢
  unfold dropK without
  induction r with
  | nil => exact .nil
  | @cons p q ps qs h t ih =>
    obtain ⟨h1, h2⟩ := h
    rw [List.filter_cons, List.filter_cons]
    by_cases e : p.1 = k
    · have a : ¬ decide (p.1 ≠ k) = true := by simp [e]
      have b : ¬ decide (q.1 ≠ k) = true := by simp [h1.symm.trans e]
      rw [if_neg a, if_neg b]; exact ih
    · have e' : ¬ q.1 = k := fun z => e (h1.trans z)
      have a : decide (p.1 ≠ k) = true := by simp [e]
      have b : decide (q.1 ≠ k) = true := by simp [e']
      rw [if_pos a, if_pos b]; exact .cons ⟨h1, h2⟩ ih
theorem KV.length {kvs : List (κ × V)} {vs : List (κ × Value)} (r : KV kvs vs) : kvs.length = vs.length := Paired.length r
end



abbrev KT (H : Hp) : List (List Key × V) → List (List Key × Addr × Value) → Prop := Paired fun p q => p.1 = q.1 ∧ H q.2.1 = some (.tup (p.1.map kV)) ∧ RelV p.2 q.2.2
theorem KT.val {H : Hp} {kvs : List (List Key × V)} {xs : List (List Key × Addr × Value)} (r : KT H kvs xs) (k : List Key) : RelO (valV kvs k) ((atKey xs k).map (·.2)) := by
  induction r with
  | nil => exact True.intro
  | @cons p q ps qs h t ih =>
    obtain ⟨h1, _, h2⟩ := h
    by_cases e : p.1 = k
    · have e' : q.1 = k := h1.symm.trans e
      have b : atKey (q :: qs) k = some q.2 := by simp [atKey, List.find?_cons, e']
      rw [valV_pos e, b]; exact h2
    · have e' : ¬ q.1 = k := fun z => e (h1.trans z)
      have b : atKey (q :: qs) k = atKey qs k := by simp [atKey, List.find?_cons, e']
      rw [valV_neg e, b]; exact ih
theorem KT.repl {H : Hp} {kvs : List (List Key × V)} {xs : List (List Key × Addr × Value)} (r : KT H kvs xs) (k : List Key) {y : V} {u : Value} (ry : RelV y u) :
    KT H (kvs.map fun kv => if kv.1 = k then (kv.1, y) else kv) (xs.map (putAt k u)) := by
  induction r with
  | nil => exact .nil
  | @cons p q ps qs h t ih =>
    rw [List.map_cons, List.map_cons]
    refine .cons ?_ ih
    obtain ⟨h1, h2, h3⟩ := h
    unfold putAt
    by_cases e : p.1 = k
    · rw [if_pos e, if_pos (h1.symm.trans e)]; exact ⟨h1, h2, ry⟩
    · rw [if_neg e, if_neg (fun z => e (h1.trans z))]; exact ⟨h1, h2, h3⟩
theorem KT.put {H : Hp} {kvs : List (List Key × V)} {xs : List (List Key × Addr × Value)} (r : KT H kvs xs) (k : List Key) {b : Addr} {y : V} {u : Value} (hb : H b = some (.tup (k.map kV))) (ry : RelV y u) :
    KT H (putK kvs k y) (storedH xs k b u) := by
  have e : (kvs.any fun kv => decide (kv.1 = k)) = (atKey xs k).isSome := by
    rw [valV_any, (r.val k).isSome_eq, Option.isSome_map]
  unfold putK storedH
  rw [e]
  by_cases q : (atKey xs k).isSome = true
  · rw [if_pos q, if_pos q]; exact r.repl k ry
  · rw [if_neg q, if_neg q]; exact Paired.snoc r ⟨rfl, hb, ry⟩
theorem KT.keeps {H H' : Hp} {kvs : List (List Key × V)} {xs : List (List Key × Addr × Value)} (r : KT H kvs xs) (ht : ∀ b ys, H b = some (.tup ys) → H' b = some (.tup ys)) : KT H' kvs xs :=
  Paired.mapP r fun _ _ z => ⟨z.1, ht _ _ z.2.1, z.2.2⟩

section
variable {P : Program} {w : World} {H : Hp} {h : Heap} {a : Addr}
end


def DGet (H : Hp) (a : Addr) (y : V) (r : Option V) : Prop :=
  (∃ kvs k, Rd H a (.dK kvs) ∧ y = kV k ∧ r = valV kvs k) ∨ ∃ kvs k b, Rd H a (.dT kvs) ∧ y = .ref b ∧ H b = some (.tup (k.map kV)) ∧ r = valV kvs k

def DPut (H : Hp) (a : Addr) (y v : V) (H' : Hp) : Prop :=
  (∃ kvs k, H a = some (.dK kvs) ∧ y = kV k ∧ kvs.length < sizeLine ∧ H' = upd H a (.dK (putK kvs k v))) ∨
  ∃ kvs k b, H a = some (.dT kvs) ∧ y = .ref b ∧ H b = some (.tup (k.map kV)) ∧ kvs.length < sizeLine ∧ H' = upd H a (.dT (putK kvs k v))
theorem DGet.k {H : Hp} {a : Addr} {kvs : List (Key × V)} {k : Key} (e : H a = some (.dK kvs)) : DGet H a (kV k) (valV kvs k) := .inl ⟨kvs, k, .inl e, rfl, rfl⟩
theorem DGet.t {H : Hp} {a b : Addr} {kvs : List (List Key × V)} {k : List Key} (e : H a = some (.dT kvs)) (eb : H b = some (.tup (k.map kV))) : DGet H a (.ref b) (valV kvs k) := .inr ⟨kvs, k, b, .inl e, rfl, eb, rfl⟩
theorem DPut.k {H : Hp} {a : Addr} {kvs : List (Key × V)} {k : Key} {v : V} (e : H a = some (.dK kvs)) (hl : kvs.length < sizeLine) : DPut H a (kV k) v (upd H a (.dK (putK kvs k v))) := .inl ⟨kvs, k, e, rfl, hl, rfl⟩
theorem DPut.t {H : Hp} {a b : Addr} {kvs : List (List Key × V)} {k : List Key} {v : V} (e : H a = some (.dT kvs)) (eb : H b = some (.tup (k.map kV))) (hl : kvs.length < sizeLine) :
    DPut H a (.ref b) v (upd H a (.dT (putK kvs k v))) := .inr ⟨kvs, k, b, e, rfl, eb, hl, rfl⟩


section
variable {X : Cx} {pins : List (Addr × Obj)} {σ : St} {H : Hp} {s : Shared} {a : Addr} {y v : V} {u r : Value} {o : Option V} {A : Around} {E : Value → Shared → Prop}

theorem Inv.big (I : Inv X pins σ H s) : sysModules < s.heap.objs.size := by
  have h : mainGlobals < s.heap.objs.size := (I.mod.glob.keeps I.bk).lt
  exact Nat.lt_trans (by decide) h


end

section
variable {X : Cx} {pins : List (Addr × Obj)} {σ : St} {H : Hp} {s : Shared} {a : Addr} {kvs : List (Key × V)} {k : Key} {u : Value} {A : Around} {E : Value → Shared → Prop}

end




section
variable {X : Cx} {o i e value : Expr} {pos pos' tpos : Pos} {td ty tv : TE}
end



section
variable {X : Cx} {pos : Pos}
end


structure M1 (X : Cx) (o : Expr) (m : Str) (apos : Pos) (e : Expr) (cpos : Pos) : Prop where
  base : attributeBase o m X.env (eval o X.env) = eval o X.env
  few : ((backTo cpos (starEach [e] X.env)).all (fun x => !x.1) && (backToKw cpos (keywordEach [] X.env)).all (fun x => x.1.isSome)
    && decide (([e] : List Expr).length + ([] : List Keyword).length + (if ([] : List Keyword).isEmpty then 0 else 1) < 30)) = true
  line : (apos.endLine == cpos.line) = true
  trees : backTo cpos (starEach [e] X.env) = [(false, eval e X.env)]
structure M2 (X : Cx) (o : Expr) (m : Str) (apos : Pos) (e f : Expr) (cpos : Pos) : Prop where
  base : attributeBase o m X.env (eval o X.env) = eval o X.env
  few : ((backTo cpos (starEach [e, f] X.env)).all (fun x => !x.1) && (backToKw cpos (keywordEach [] X.env)).all (fun x => x.1.isSome)
    && decide (([e, f] : List Expr).length + ([] : List Keyword).length + (if ([] : List Keyword).isEmpty then 0 else 1) < 30)) = true
  line : (apos.endLine == cpos.line) = true
  trees : backTo cpos (starEach [e, f] X.env) = [(false, eval e X.env), (false, eval f X.env)]


section
variable {X : Cx} {pins : List (Addr × Obj)} {σ : St} {H : Hp} {s : Shared} {a : Addr} {y d : V} {u r : Value} {o : Option V} {A : Around} {E : Value → Shared → Prop}

end

section
variable {X : Cx} {o e f : Expr} {apos cpos : Pos} {td ty tx : TE}
end


section
variable {X : Cx} {pins : List (Addr × Obj)} {σ : St} {H : Hp} {s : Shared} {a : Addr} {kvs : List (Key × V)} {A : Around} {E : Value → Shared → Prop}
end


section
variable {X : Cx} {pins : List (Addr × Obj)} {σ : St} {H : Hp} {s : Shared} {a : Addr} {y : V} {u : Value} {A : Around} {E : Value → Shared → Prop}

end
end L2

set_option Elab.async false
set_option linter.all false
set_option maxRecDepth 100000
set_option maxHeartbeats 1000000
namespace L2
open PySem PySem.Spec PyProof.Rows
section
variable {X : Cx}
end
end L2

set_option Elab.async false
set_option linter.all false
set_option maxRecDepth 100000
set_option maxHeartbeats 1000000
namespace L2
open PySem PySem.Spec PyProof.Rows PySem.Builtin PySem.Builtin.ObjectAttr
structure XKl (K : PySem.W.Frag) (C : Addr) : Prop where
  ga : PySem.W.findIn K (.ref C) "__getattribute__" = some (some (.builtin "BaseException.__getattribute__"))
  gx : PySem.W.findIn K (.ref C) "__getattr__" = some none
  hd : PySem.W.hasDictIn K C = true
  ha : PySem.W.findIn K (.ref C) "__class__" = some (some (.builtin "object.__class__"))
  hn : PySem.W.specialIn K (.builtin "object.__class__") "__get__" = some (some (.builtin "getset_descriptor.__get__"))
  tk : PySem.W.takesIn K (.builtin "object.__class__") = some true
  hm : PySem.W.mroIn K C (.type "object") = some true
section
variable {P : Program} {w : World} {A : Around} {E : Value → Shared → Prop} {s : Shared} {K : PySem.W.Frag} {C N x : Addr} {bm : List Value} {ini : Option Value} {f : Str} {v : Value} {ox : Obj} {vs : Array Value}
theorem find_data {a g : Value} {odo : Option Obj} (hc : (PySem.W.clsIn K C).isSome = true) (ha : PySem.W.findIn K (.ref C) f = some (some a)) (hg : PySem.W.specialIn K a "__get__" = some (some g)) (ht : PySem.W.takesIn K a = some true) : PySem.W.findObj K C odo f = some (.bind g a) := by
  obtain ⟨cd, hc⟩ := Option.isSome_iff_exists.mp hc
  unfold PySem.W.findObj
  rw [hc, Option.bind_some, ha, Option.bind_some]
  simp [hg, ht]
theorem oga_bind {tk : Tok} {Q : Fin → Shared → Prop} {tp g a : Value} (L0 : PySem.W.Looks (model P w) s.heap (typeOf (.ref x)) tp) (L1 : PySem.W.Looks (model P w) s.heap (find (.ref x) tp f) (.bind g a))
    (h : wpAny (model P w) A (call g [a, .ref x, tp]) (fun v s' => Q (.done (.ret v)) s') E s) :
    wpAny (model P w) A (Builtin.«object.__getattribute__» ⟨[.ref x, .str f tk], []⟩) Q E s := by
  unfold Builtin.«object.__getattribute__»
  refine wpAny_bind (m := slotArgs _ _ _) ?_
  refine wpAny_pure (a := (Value.ref x, [Value.str f tk])) ?_
  refine wpAny_bind (m := attrName _) ?_
  refine wpAny_pure (a := f) ?_
  refine wpAny_bind (L0.here ?_)
  refine wpAny_bind (L1.here ?_)
  first
    | exact wpAny_bind (wpAny_holding (wpAny_mono h (fun v s' z => wpAny_pure z) fun _ _ z => z))
    | exact wpAny_bind (wpAny_mono h (fun v s' z => wpAny_pure z) fun _ _ z => z)
theorem exc_class {od : Option Obj} {Q : Option Value → Shared → Prop} (kin : K.In s.heap) (c : XCl K C N bm ini) (tl : XTl K bm) (k : XKl K C) (J : PySem.W.InstAt s.heap x ox C od)
    (h : Q (some (.ref C)) { s with toks := s.toks + 1 }) : wpAny (model P w) A (getAttr? (.ref x) "__class__") Q E s := by
  obtain ⟨cd, hcd, hm, hdd⟩ := c.cls k.hd
  have FO : PySem.W.findObj K C od "__class__" = some (.bind (.builtin "getset_descriptor.__get__") (.builtin "object.__class__")) := find_data (by rw [hcd]; rfl) k.ha k.hn k.tk
  have hob : (cd.mro.contains (.type "BaseException")) = true := by rw [hm, List.contains_cons, tl.base]; rfl
  have ne : cd.mro.isEmpty = false := by rw [hm]; rfl
  have sub : PySem.W.Looks (model P w) s.heap (isInstance (.ref x) (.type "BaseException")) true :=
    J.type.andThen (PySem.W.looks_mroIn kin (by unfold PySem.W.mroIn; rw [hcd, Option.bind_some, if_neg (by rw [ne]; decide), hob]))
  have hk : PySem.W.Looks (model P w) s.heap (hookBefore (.ref C)) none := PySem.W.looks_hook kin (by show (if onTheHeap (.ref C) then _ else _) = _; exact k.gx)
  have L1 := PySem.W.looks_find (M := model P w) kin J FO
  unfold getAttr? getAttrBy? getAttrBy
  refine wpAny_bind (wpAny_mkText (wpAny_bind (wpAny_attempt (wpAny_holding (wpAny_bind (J.type _ _ _ _ (fun _ _ e => e) (wpAny_bind (PySem.W.looks_findIn kin k.ga _ _ _ _ (fun _ _ e => e) ?_))))))))
  dsimp only
  rw [show (onTheHeap (Value.ref C) && Value.builtin "BaseException.__getattribute__" == Value.builtin "object.__getattribute__") = false from by rw [show (Value.builtin "BaseException.__getattribute__" == Value.builtin "object.__getattribute__") = false from by decide +kernel]; exact Bool.and_false _, if_neg (by decide)]
  refine wpAny_bind (hk _ _ _ _ (fun _ _ e => e) (wpAny_bind (wpAny_attempt (wpAny_holding ?_))))
  unfold callGetattribute
  rw [show (false && onTheHeap (Value.builtin "BaseException.__getattribute__")) = false from Bool.false_and _, if_neg (by decide)]
  unfold boundAndCalled
  rw [PySem.F.attr_ValueError.ga.bind]
  refine wpAny_bind (wpAny_pure ?_)
  show wpAny _ _ (call (.builtin "BaseException.__getattribute__") [.ref x, .str "__class__" s.toks]) _ _ _
  refine wpAny_call (codeAny_call_builtin PySem.F.attr_ValueError.ga.plain PySem.F.entry_bexc_ga (PySem.W.check_slot (M := model P w) (s := { s with toks := s.toks + 1 }) (i := "BaseException.__getattribute__") (owner := "BaseException") (n := "__getattribute__") (self := .ref x) (rest := [.str "__class__" s.toks]) (kw := []) (by decide +kernel) (by decide +kernel) sub (PySem.F.args_bexc_ga (.ref x) (.str "__class__" s.toks)) ?_))
  refine oga_bind (s := { s with toks := s.toks + 1 }) J.type L1 (wpAny_call (PySem.W.class_get (s := { s with toks := s.toks + 1 }) (ox := ox) (od := od) kin J k.hm ?_))
  show wpAny _ _ (handedOut (.ref C)) _ _ _
  rw [PySem.W.handedOut_of rfl]
  exact wpAny_pure (wpAny_pure h)
theorem kitx_exc {x : Addr} {ox : Obj} {od : Option Obj} (c : XCl K C N bm ini) (tl : XTl K bm) (k : XKl K C) : PySem.W.KitX K (.ref x) (.ref C) (fun h => PySem.W.InstAt h x ox C od) where
  ty := fun _ _ _ I => I.type
  it := fun _ _ X _ => by
    obtain ⟨nm, q, bs, hdct, sn, sub, ab, col, dd, k0, k1, k2, k3, k5, lc⟩ := c.ob
    intro A' Q' E' s' k q
    unfold isType loadHead
    exact wpAny_bind (wpAny_loadPart (k _ _ (X _ _ lc)) (wpAny_pure q))
  ne := fun h tp dd its n sl X htp => by
    obtain ⟨nm, q, bs, hdct, sn, sub, ab, col, dd, k0, k1, k2, k3, k5, lc⟩ := c.ob
    refine Bool.eq_false_iff.mpr fun q => ?_
    have e : C = tp := Value.ref.inj (beq_iff_eq.mp q)
    subst e
    have z := congrArg Obj.cls (Option.some.inj ((X _ _ lc).symm.trans htp))
    have z : Value.type "type" = Value.type "tuple" := z
    injection z with z
    exact absurd z (by decide)
  ca := fun X I q => exc_class X c tl k I q
end
section
variable {X : Cx} {K : PySem.W.Frag}
def XOb (H : Hp) (ea C : Addr) : Prop := ∃ od, (H ea = some (xmO ea (.ref C) od) ∨ H ea = some (xcO ea (.ref C) od)) ∧ (od = none ∨ ∃ d fs, od = some d ∧ H d = some (xdO d fs))
theorem XOb.at {pins : List (Addr × Obj)} {σ : St} {H : Hp} {s : Shared} {ea C : Addr} (I : Inv X pins σ H s) (h : XOb H ea C) : ∃ o od, PySem.W.InstAt s.heap ea o C od := by
  obtain ⟨od, e, d⟩ := h
  obtain ⟨o, vs, q1, q2, q3, q4⟩ : ∃ o vs, s.heap.get? ea = some o ∧ o.cls = .ref C ∧ o.dict = od ∧ o.data = .fields vs := by
    rcases e with e | e
    · obtain ⟨⟨o, vs, q1, q2, q3, q4, _⟩, _⟩ := I.hok ea _ e
      exact ⟨o, vs, q1, q2, q3, q4⟩
    · obtain ⟨⟨o, vs, q1, q2, q3, q4, _⟩, _⟩ := I.hok ea _ e
      exact ⟨o, vs, q1, q2, q3, q4⟩
  have no : ∀ {P : Prop}, P → P := id
  rcases d with rfl | ⟨d, fs, rfl, e2⟩
  · exact ⟨o, none, q1, q2, by obtain ⟨oc, odi, oda, osl⟩ := o; cases q4; rfl, by rw [q3]; exact True.intro⟩
  · obtain ⟨⟨mA, ⟨od, es, n, ho, _⟩, _⟩, _⟩ := I.hok d _ e2
    exact ⟨o, some od, q1, q2, by obtain ⟨oc, odi, oda, osl⟩ := o; cases q4; rfl, by rw [q3]; exact ho⟩
theorem XOb.mono {H H' : Hp} {ea C : Addr} (s : Same H H') (h : XOb H ea C) : XOb H' ea C := by
  obtain ⟨od, e, d⟩ := h
  refine ⟨od, e.imp (s _ _) (s _ _), d.imp id fun ⟨d, fs, e1, e2⟩ => ⟨d, fs, e1, s _ _ e2⟩⟩
def rIsX (K : PySem.W.Frag) : List V → Hp → VK → Prop := fun xs H Q => ∃ ea C N bm ini c b, xs = [.ref ea, c] ∧ XOb H ea C ∧ XCl K C N bm ini ∧ XTl K bm ∧ XKl K C ∧ ((∃ n, c = .ty n ∧ PySem.W.kitOne K (.ref C) (.type n) = some b) ∨ (∃ a, c = .ref a ∧ PySem.W.kitOne K (.ref C) (.ref a) = some b)) ∧ Q (.bl b) H
theorem call_isX (h : X.K = K) : CallR X (.builtin "isinstance") (rIsX K) := by
  subst h
  intro pins s σ H xs us Q I r h
  obtain ⟨ea, C, N, bm, ini, c, b, rfl, xo, xc, tl, k, hc, q⟩ := h
  obtain ⟨u, w', rfl, ru, rw'⟩ := vals2 r
  obtain ⟨o, od, J⟩ := xo.at I
  cases (show u = Value.ref ea from ru)
  rcases hc with ⟨n, rfl, e⟩ | ⟨a, rfl, e⟩
  · cases rw'
    exact PySem.W.kia_one (kitx_exc xc tl k) I.kIn J e (fun z => nomatch z) fun tk => ⟨.bl b, H, I.tok tk, rfl, q⟩
  · cases rw'
    exact PySem.W.kia_one (kitx_exc xc tl k) I.kIn J e (fun z => nomatch z) fun tk => ⟨.bl b, H, I.tok tk, rfl, q⟩
end
section
variable {X : Cx} {C N fI : Addr} {bm : List Value} {x : Str} {np cpos : Pos} {e : Expr} {es : List Expr} {t : TA}
end
section
variable {K : PySem.W.Frag} {C D N N' : Addr} {bm bm' : List Value} {ini ini' : Option Value} {b : Bool}
theorem XCl.kind (c : XCl K C N bm ini) : (PySem.W.clsIn K C).isSome = true ∧ PySem.W.typeIn K (.ref C) = some (.type "type") := by
  obtain ⟨nm, q, bs, hdct, sn, sub, ab, col, dd, k0, k1, k2, k3, k5, lc⟩ := c.ob
  constructor
  · unfold PySem.W.clsIn; rw [lc]; rfl
  · show (K.lookup C).map (·.cls) = _; rw [lc]; rfl
theorem XCl.self (c : XCl K C N bm ini) : PySem.W.mroIn K C (.ref C) = some true := by
  obtain ⟨nm, q, bs, hdct, sn, sub, ab, col, dd, k0, k1, k2, k3, k5, lc⟩ := c.ob
  unfold PySem.W.mroIn PySem.W.clsIn
  rw [lc]
  show (if (Value.ref C :: bm).isEmpty = true then none else some ((Value.ref C :: bm).contains (.ref C))) = some true
  simp
theorem kit_x (c : XCl K C N bm ini) (d : XCl K D N' bm' ini') (m : PySem.W.mroIn K C (.ref D) = some b) : PySem.W.kitOne K (.ref C) (.ref D) = some b := by
  unfold PySem.W.kitOne
  by_cases e : C = D
  · subst e
    rw [c.self] at m
    rw [if_pos (by simp)]; exact m
  · rw [if_neg (by simp; exact e)]
    unfold PySem.W.kitCls
    dsimp only
    rw [d.kind.1, d.kind.2, if_pos (by decide)]
    exact m
theorem kit_t (m : PySem.W.mroIn K C (.type "ValueError") = some b) : PySem.W.kitOne K (.ref C) (.type "ValueError") = some b := by
  unfold PySem.W.kitOne
  rw [if_neg (by simp)]
  unfold PySem.W.kitCls
  dsimp only
  rw [if_pos (by decide +kernel)]
  exact m
end
end L2

set_option Elab.async false
set_option linter.all false
set_option maxRecDepth 100000
set_option maxHeartbeats 1000000
namespace L2
open PySem PySem.Spec PyProof.Rows PySem.Builtin
section
variable {prog : Program} {w : World} {A : Around} {E : Value → Shared → Prop} {s : Shared} {α : Type}
end
end L2

set_option Elab.async false
set_option linter.all false
set_option maxRecDepth 100000
set_option maxHeartbeats 4000000
namespace L2
open PySem PySem.Spec PyProof.Rows
structure TurnG (G : Cx → Prop) (P : Program) (w : World) (K : PySem.W.Frag) (tg : Expr) (J : It) (fp : List Addr) (it : Addr) (tn : Nat → Heap → Prop) : Prop where
  mem : it ∈ fp
  obj : ∀ i h, tn i h → ∀ b ∈ fp, ∃ o, h.get? b = some o ∧ ∀ v, o.data ≠ .cell v
  keep : ∀ i h h', tn i h → (∀ b ∈ fp, ∀ o, h.get? b = some o → h'.get? b = some o) → tn i h'
  item : ∀ (X : Cx), X.prog = P → X.w = w → X.K = K → G X → ∀ (i : Nat) (pins : List (Addr × Obj)) (s : Shared) (σ : St) (H : Hp) (E : Value → Shared → Prop), Inv X pins σ H s → (∀ b ∈ fp, FpOk X pins H b) → tn i s.heap → J.go i H →
    wpAny (model P w) X.A (pyNext (.ref it)) (fun r s1 => ∃ u, r = some u ∧
      wpAny (model P w) X.A (letOwnedTupleGo tg (.ref it) u) (fun _ s2 => ∃ x H', Inv X pins σ H' s2 ∧ RelV x u ∧ J.yld i H x H' ∧ tn (i + 1) s2.heap ∧ ∀ b ∈ fp, H' b = none) E s1) E s
  done : ∀ (X : Cx), X.prog = P → X.w = w → X.K = K → G X → ∀ (i : Nat) (pins : List (Addr × Obj)) (s : Shared) (σ : St) (H : Hp) (E : Value → Shared → Prop), Inv X pins σ H s → (∀ b ∈ fp, FpOk X pins H b) → tn i s.heap → J.stop i H →
    wpAny (model P w) X.A (pyNext (.ref it)) (fun r s1 => r = none ∧ Inv X pins σ H s1) E s
  self : ∀ (A : Around) (i : Nat) (s : Shared) (Q : Value → Shared → Prop) (E : Value → Shared → Prop), tn i s.heap → Q (.ref it) s → wpAny (model P w) A (pyIter (.ref it)) Q E s
def Hd (ea : Addr) (X : Cx) : Prop := X.A.handled = some (.ref ea)
section
variable {X : Cx} {tg : Expr} {ea : Addr}
end
section
variable {X : Cx} {elt tg iter : Expr} {ifs : List Expr} {scope : Scope} {pos : Pos} {N : List Str} {nv : Nat} {js : List Nat} {wi : TI} {g : TG} {tt : TT} {te : TE}
end
end L2

set_option Elab.async false
set_option linter.all false
set_option maxRecDepth 100000
set_option maxHeartbeats 4000000
namespace L2
open PySem PySem.Spec PyProof.Rows
section
variable {X : Cx}
theorem strs_from : ∀ (ss : List Str) (t : Nat), Vals (ss.map V.str) (strsFrom t ss)
  | [], _ => .nil
  | x :: r, t => .cons ⟨_, rfl⟩ (strs_from r (t + 1))
theorem join_count (c : Nat) : ∀ (ss : List Str), ss.length ≤ (Str.join (sg c) ss).length + 1
  | [] => Nat.zero_le _
  | [x] => by show 1 ≤ _ + 1; omega
  | x :: y :: r => by
    have h := join_count c (y :: r)
    have e : (Str.join (sg c) (x :: y :: r)).length = x.length + 1 + (Str.join (sg c) (y :: r)).length := by
      show (x ++ sg c ++ Str.join (sg c) (y :: r)).length = _
      show ((x.cps ++ (sg c).cps) ++ (Str.join (sg c) (y :: r)).cps).size = _
      rw [Array.size_append, Array.size_append]; rfl
    rw [e]
    rw [List.length_cons] at h ⊢
    rw [List.length_cons] at *
    omega
def rSplit : V → List V → Hp → VK → Prop := fun x vs H Q => ∃ (z : Str) (c : Nat), x = .str z ∧ vs = [.str (sg c)] ∧ z.length ≤ 100000 ∧
  ∀ (ss : List Str), Str.join (sg c) ss = z → (∀ p ∈ ss, c ∉ p.cps.toList) → ss ≠ [] → ∀ l, H l = none → Q (.ref l) (upd H l (.lst (ss.map V.str)))
theorem mt_split : MtR X "str.split" rSplit := by
  intro pins s σ H x vs v us Q I rx rv h
  obtain ⟨z, c, rfl, rfl, hz, q⟩ := h
  obtain ⟨t, rfl⟩ := rx
  obtain ⟨u, rfl, ru⟩ := rv.one
  obtain ⟨t', rfl⟩ := ru
  have hj := StrLaws.join_split z (sg c)
  have hf := StrLaws.split_free z c
  have hl := join_count c (Txt.split z (sg c))
  rw [hj] at hl
  have hq : ∀ (ss : List Str), Txt.split z (sg c) = ss → ss ≠ [] → ∀ l, H l = none → Q (.ref l) (upd H l (.lst (ss.map V.str))) := fun ss e hn => by
    subst e
    exact q _ hj hf hn
  have hsz : (100001 : Nat) ≤ sizeLine := by decide
  cases h1 : (decide (z.length < (sg c).length) || decide (Builtin.Str.strKind z < Builtin.Str.strKind (sg c))) with
  | true =>
    have e : Txt.split z (sg c) = [z] := if_pos h1
    refine call_meets F.slot_str_split (typeIs_str _ _ _) F.entry_str_split (F.args_str_split_2 _ _) (meets_str_split_cannot_occur z (sg c) t t' h1) ?_
    exact ⟨.ref _, _, I.lnew (t' := s.toks) (its := [.str z t]) (ys := [.str z]) (.cons ⟨_, rfl⟩ .nil) (by show 1 ≤ sizeLine; decide), rfl, hq [z] e (by intro z; cases z) _ I.fresh⟩
  | false =>
    cases hf2 : (Builtin.Str.occurrences z (sg c) 0 z.length (z.length + 1)).isEmpty with
    | true =>
      have e : Txt.split z (sg c) = [z] := (if_neg (ne_true_of_eq_false h1)).trans (if_pos hf2)
      refine call_meets F.slot_str_split (typeIs_str _ _ _) F.entry_str_split (F.args_str_split_2 _ _) (meets_str_split_not_found z (sg c) t t' h1 rfl hf2) ?_
      exact ⟨.ref _, _, I.lnew (t' := s.toks) (its := [.str z t]) (ys := [.str z]) (.cons ⟨_, rfl⟩ .nil) (by show 1 ≤ sizeLine; decide), rfl, hq [z] e (by intro z; cases z) _ I.fresh⟩
    | false =>
      have e : Txt.split z (sg c) = Builtin.Str.partsBetween z (Builtin.Str.occurrences z (sg c) 0 z.length (z.length + 1)) (sg c).length := (if_neg (ne_true_of_eq_false h1)).trans (if_neg (ne_true_of_eq_false hf2))
      rw [e] at hl
      refine call_meets F.slot_str_split (typeIs_str _ _ _) F.entry_str_split (F.args_str_split_2 _ _) (meets_str_split_sep z (sg c) t t' h1 rfl hf2 (by omega) (by omega)) ?_
      have hne : Builtin.Str.partsBetween z (Builtin.Str.occurrences z (sg c) 0 z.length (z.length + 1)) (sg c).length ≠ [] := by
        rw [StrLaws.partsBetween_eq]
        obtain ⟨p, r, e2⟩ := StrLaws.partsFrom_ne z (sg c).length 0 (Builtin.Str.occurrences z (sg c) 0 z.length (z.length + 1))
        rw [e2]; intro z; cases z
      refine ⟨.ref _, _, I.lnew (its := strsFrom s.toks _) (ys := (Builtin.Str.partsBetween z (Builtin.Str.occurrences z (sg c) 0 z.length (z.length + 1)) (sg c).length).map V.str) (strs_from _ _) (by rw [List.length_map]; omega), rfl, hq _ e hne _ I.fresh⟩
end
end L2

set_option Elab.async false
set_option linter.all false
set_option maxRecDepth 100000
set_option maxHeartbeats 4000000
namespace L2
open PySem PySem.Spec PyProof.Rows
end L2

set_option Elab.async false
set_option linter.all false
set_option maxRecDepth 100000
set_option maxHeartbeats 4000000
namespace L2
open PySem PySem.Spec PyProof.Rows
section
variable {X : Cx} {K : PySem.W.Frag}
def rIsXT (K : PySem.W.Frag) : List V → Hp → VK → Prop := fun xs H Q => ∃ (ea C N : Addr) (bm : List Value) (ini : Option Value) (tp : Addr) (Ds : List Addr), xs = [.ref ea, .ref tp] ∧ XOb H ea C ∧ XCl K C N bm ini ∧ XTl K bm ∧ XKl K C ∧ H tp = some (.tup (Ds.map V.ref)) ∧ (∀ D ∈ Ds, PySem.W.kitOne K (.ref C) (.ref D) = some false) ∧ Q (.bl false) H
theorem vals_refs : ∀ {Ds : List Addr} {us : List Value}, Vals (Ds.map V.ref) us → us = Ds.map Value.ref
  | [], _, .nil => rfl
  | D :: Ds, _, .cons r t => by cases (show _ = Value.ref D from r); rw [vals_refs t]; rfl
theorem kit_none {C : Addr} : ∀ {Ds : List Addr}, (∀ D ∈ Ds, PySem.W.kitOne K (.ref C) (.ref D) = some false) → PySem.W.kitAny K (.ref C) (Ds.map Value.ref) = some false
  | [], _ => rfl
  | D :: Ds, h => by
    show (match PySem.W.kitOne K (.ref C) (.ref D) with | some true => some true | some false => PySem.W.kitAny K (.ref C) (Ds.map Value.ref) | none => none) = _
    rw [h D (List.mem_cons_self ..)]
    exact kit_none fun D' h' => h D' (List.mem_cons_of_mem _ h')
theorem call_isXT (h : X.K = K) : CallR X (.builtin "isinstance") (rIsXT K) := by
  subst h
  intro pins s σ H xs us Q I r h
  obtain ⟨ea, C, N, bm, ini, tp, Ds, rfl, xo, xc, tl, k, ht, hD, q⟩ := h
  obtain ⟨u, w', rfl, ru, rw'⟩ := vals2 r
  obtain ⟨o, od, J⟩ := xo.at I
  cases (show u = Value.ref ea from ru)
  cases (show w' = Value.ref tp from rw')
  obtain ⟨_, its, rv, ob, hob, hc, n, hd⟩ := (show ObjOk X.prog X.w H s.heap tp (.tup (Ds.map V.ref)) from I.hok tp _ ht)
  obtain ⟨cls, dd, data, sl⟩ := ob
  simp only at hc hd
  subst hc hd
  rw [vals_refs rv] at hob
  exact PySem.W.kia_tup (kitx_exc xc tl k) I.kIn J hob (kit_none hD) (fun z => nomatch z) fun tk => ⟨.bl false, H, I.tok tk, rfl, q⟩
end
end L2

set_option Elab.async false
set_option linter.all false
set_option maxRecDepth 100000
set_option maxHeartbeats 4000000
namespace L2
open PySem PySem.Spec PyProof.Rows
section
variable {X : Cx}
def rIndex : V → List V → Hp → VK → Prop := fun x vs H Q => ∃ (z y : Str), x = .str z ∧ vs = [.str y] ∧ 0 ≤ Txt.find z y ∧ Q (.int (Txt.find z y)) H
theorem mt_index : MtR X "str.index" rIndex := by
  intro pins s σ H x vs v us Q I rx rv h
  obtain ⟨z, y, rfl, rfl, hz, q⟩ := h
  obtain ⟨t, rfl⟩ := rx
  obtain ⟨u, rfl, ru⟩ := rv.one
  obtain ⟨t', rfl⟩ := ru
  cases ho : Builtin.Str.occurrences z y 0 z.length 1 with
  | nil =>
    have e : Txt.find z y = -1 := by simp [Txt.find, ho]
    omega
  | cons i rest =>
    have e : Txt.find z y = (i : Int) := by simp [Txt.find, ho]
    rw [e] at q
    refine SC.index ho ?_
    exact ⟨.int _, H, I.tok _, ⟨_, rfl⟩, q⟩
end
end L2

set_option Elab.async false
set_option linter.all false
namespace L2
open PySem
theorem rdT {A B : Prop} {b : Bool} (hb : b = true) (h : A) : if b = true then A else B := by rw [if_pos hb]; exact h
theorem rdF {A B : Prop} {b : Bool} (hb : b = false) (h : B) : if b = true then A else B := by rw [if_neg (by rw [hb]; decide)]; exact h
theorem rdD {p A B : Prop} [Decidable p] (hp : p) (h : A) : if decide p = true then A else B := rdT (decide_eq_true hp) h
theorem rdDn {p A B : Prop} [Decidable p] (hp : ¬ p) (h : B) : if decide p = true then A else B := rdF (decide_eq_false hp) h
theorem rdN {p A B : Prop} [Decidable p] (hp : p) (h : B) : if (!decide p) = true then A else B := rdF (by rw [decide_eq_true hp]; rfl) h
theorem rdNn {p A B : Prop} [Decidable p] (hp : ¬ p) (h : A) : if (!decide p) = true then A else B := rdT (by rw [decide_eq_false hp]; rfl) h
theorem rdNT {A B : Prop} {b : Bool} (hb : b = true) (h : B) : if (!b) = true then A else B := rdF (by rw [hb]; rfl) h
theorem rdNF {A B : Prop} {b : Bool} (hb : b = false) (h : A) : if (!b) = true then A else B := rdT (by rw [hb]; rfl) h
theorem rdI {A B : Prop} {a b : Int} (hp : a = b) (h : A) : if decide (V.int a = V.int b) = true then A else B := rdD (by rw [hp]) h
theorem rdIn {A B : Prop} {a b : Int} (hp : ¬ a = b) (h : B) : if decide (V.int a = V.int b) = true then A else B := rdDn (fun e => hp (V.int.inj e)) h
theorem rdJ {A B : Prop} {a b : Int} (hp : a = b) (h : B) : if (!decide (V.int a = V.int b)) = true then A else B := rdN (by rw [hp]) h
theorem rdJn {A B : Prop} {a b : Int} (hp : ¬ a = b) (h : A) : if (!decide (V.int a = V.int b)) = true then A else B := rdNn (fun e => hp (V.int.inj e)) h
theorem rdB {A B : Prop} {b : Bool} (h1 : b = true → A) (h2 : b = false → B) : if b = true then A else B := by
  cases b with
  | true => exact iteT (h1 rfl)
  | false => exact iteF (h2 rfl)
theorem rd2 {p A B : Prop} [Decidable p] (h1 : p → A) (h2 : ¬ p → B) : if decide p = true then A else B := by
  by_cases h : p
  · exact rdD h (h1 h)
  · exact rdDn h (h2 h)
theorem rd2n {p A B : Prop} [Decidable p] (h1 : ¬ p → A) (h2 : p → B) : if (!decide p) = true then A else B := by
  by_cases h : p
  · exact rdN h (h2 h)
  · exact rdNn h (h1 h)
theorem rd2i {A B : Prop} {a b : Int} (h1 : a = b → A) (h2 : ¬ a = b → B) : if decide (V.int a = V.int b) = true then A else B := by
  by_cases h : a = b
  · exact rdI h (h1 h)
  · exact rdIn h (h2 h)
theorem rd2in {A B : Prop} {a b : Int} (h1 : ¬ a = b → A) (h2 : a = b → B) : if (!decide (V.int a = V.int b)) = true then A else B := by
  by_cases h : a = b
  · exact rdJ h (h2 h)
  · exact rdJn h (h1 h)
theorem rd2s {A B : Prop} {a b : Str} (h1 : a = b → A) (h2 : ¬ a = b → B) : if decide (V.str a = V.str b) = true then A else B :=
  rd2 (fun h => h1 (V.str.inj h)) (fun h => h2 fun e => h (by rw [e]))
theorem rd2sn {A B : Prop} {a b : Str} (h1 : ¬ a = b → A) (h2 : a = b → B) : if (!decide (V.str a = V.str b)) = true then A else B :=
  rd2n (fun h => h1 fun e => h (by rw [e])) (fun h => h2 (V.str.inj h))
end L2

set_option Elab.async false
set_option linter.all false
set_option maxRecDepth 100000
set_option maxHeartbeats 4000000
namespace L2
open PySem PySem.Spec PyProof.Rows
section
variable {X : Cx}
def csV : Expr → Option V
  | .Constant (.str z) _ _ => some (.str z)
  | .Constant (.int i) _ _ => some (.int i)
  | .Constant (.bool b) _ _ => some (.bl b)
  | .Constant .none _ _ => some .non
  | _ => none
inductive Cs : List Expr → List V → Prop where
  | nil : Cs [] []
  | cons {e : Expr} {v : V} {es : List Expr} {vs : List V} : csV e = some v → Cs es vs → Cs (e :: es) (v :: vs)
def tCs (vs : List V) : TA := fun _ H Q => Q vs H
theorem pe_csV {e : Expr} {v : V} (h : csV e = some v) : PE X e (tC v) := by
  unfold csV at h
  split at h
  · cases h; exact pe_str
  · cases h; exact pe_int
  · cases h; exact pe_bl
  · cases h; exact pe_non
  · cases h
theorem star_cs {e : Expr} {v : V} (h : csV e = some v) (es : List Expr) : starEach (e :: es) X.env = (false, eval e X.env) :: starEach es X.env := by
  unfold csV at h
  split at h
  · rfl
  · rfl
  · rfl
  · rfl
  · cases h
theorem pa_cs {es : List Expr} {vs : List V} (h : Cs es vs) : PA X es (tCs vs) := by
  induction h with
  | nil => exact pa_nil
  | cons h1 _ ih => exact pa_cons (pe_csV h1) ih (star_cs h1 _)
theorem sw_BinOp {a o b p} {tt : Option Expr} {ll : Nat} {env : Env} : swapsWith (.BinOp a o b p) tt ll env = pure false := rfl
theorem sw_IfExp {t a b p} {tt : Option Expr} {ll : Nat} {env : Env} : swapsWith (.IfExp t a b p) tt ll env = pure false := rfl
theorem sw_Call {f a k p} {tt : Option Expr} {ll : Nat} {env : Env} : swapsWith (.Call f a k p) tt ll env = pure false := rfl
theorem sw_Constant {v k p} {tt : Option Expr} {ll : Nat} {env : Env} : swapsWith (.Constant v k p) tt ll env = pure false := rfl
theorem sw_Subscript {v s p} {tt : Option Expr} {ll : Nat} {env : Env} : swapsWith (.Subscript v s p) tt ll env = pure false := rfl
theorem sw_List {e p} {tt : Option Expr} {ll : Nat} {env : Env} : swapsWith (.List e p) tt ll env = pure false := rfl
theorem st_BinOp {a o b p es} {env : Env} : starEach (.BinOp a o b p :: es) env = (false, eval (.BinOp a o b p) env) :: starEach es env := rfl
theorem st_Compare {l o c p es} {env : Env} : starEach (.Compare l o c p :: es) env = (false, eval (.Compare l o c p) env) :: starEach es env := rfl
theorem st_Call {f a k p es} {env : Env} : starEach (.Call f a k p :: es) env = (false, eval (.Call f a k p) env) :: starEach es env := rfl
theorem st_Constant {v k p es} {env : Env} : starEach (.Constant v k p :: es) env = (false, eval (.Constant v k p) env) :: starEach es env := rfl
theorem st_Attribute {v a p es} {env : Env} : starEach (.Attribute v a p :: es) env = (false, eval (.Attribute v a p) env) :: starEach es env := rfl
theorem st_Subscript {v s p es} {env : Env} : starEach (.Subscript v s p :: es) env = (false, eval (.Subscript v s p) env) :: starEach es env := rfl
theorem st_Name {i p es} {env : Env} : starEach (.Name i p :: es) env = (false, eval (.Name i p) env) :: starEach es env := rfl
theorem st_Tuple {e k p es} {env : Env} : starEach (.Tuple e k p :: es) env = (false, eval (.Tuple e k p) env) :: starEach es env := rfl
theorem st_ListComp {e g s p es} {env : Env} : starEach (.ListComp e g s p :: es) env = (false, eval (.ListComp e g s p) env) :: starEach es env := rfl
end
end L2

set_option Elab.async false
set_option linter.all false
set_option maxRecDepth 100000
set_option maxHeartbeats 4000000
namespace My
open PySem L2
def top (i : Nat) : Stmt := PySem.Challenge.pw_dialecthall_k92_rows_refused.main.body.getD i (.Pass ⟨0, 0, 0, 0⟩)
abbrev s_NoName___init__ : Stmt := inClass (top 7) 0
abbrev s_TooMany___init__ : Stmt := inClass (top 8) 0
abbrev s_Broken___init__ : Stmt := inClass (top 9) 0
abbrev s_is_printable : Stmt := top 11
abbrev s_are_unlike_signs : Stmt := top 13
abbrev s_Dialect___init__ : Stmt := inClass (top 14) 0
abbrev s_Dialect_told : Stmt := inClass (top 14) 1
abbrev s_dialect_of : Stmt := top 15
abbrev s_makes_dialect : Stmt := top 17
abbrev s_is_name : Stmt := top 22
abbrev s_signs_of_word : Stmt := top 23
abbrev s_truths_of_word : Stmt := top 24
abbrev s_dialect_in : Stmt := top 25
abbrev s__law_cell_at : Stmt := top 27
abbrev s__law_mixed : Stmt := top 28
abbrev s__law_number : Stmt := top 29
abbrev s__law_some : Stmt := top 30
abbrev s__law_menus : Stmt := top 31
abbrev s__law_told : Stmt := top 32
abbrev s__law_title : Stmt := top 34
abbrev s__law_row : Stmt := top 35
abbrev s__law_spoilt : Stmt := top 36
abbrev s__law_signs : Stmt := top 37
abbrev s__law_read : Stmt := top 38
abbrev s__law_asked : Stmt := top 39
abbrev s_law : Stmt := top 40

theorem same_new {H : Hp} {l : Addr} {o : HO} (h : H l = none) : Same H (upd H l o) := fun b u e => by rw [upd_ne (ne_of_none e h)]; exact e
theorem same_set {H H2 : Hp} {l : Addr} {o : HO} (h : H l = none) (s : Same H H2) : Same H (upd H2 l o) := fun b u e => by rw [upd_ne (ne_of_none e h)]; exact s b u e
theorem gyes {i : Nat} {x : V} {σ : St} {H : Hp} {A B : St → Hp → Prop} (h : A (σ.set i (some x)) H) : gName i x σ H (fun τ2 H2 => tYes τ2 H2 fun b H3 => if b = true then A τ2 H3 else B τ2 H3) := by
  show (if true = true then A (σ.set i (some x)) H else B (σ.set i (some x)) H)
  exact iteT h
theorem iteNE {A B : Prop} {b : Bool} (hb : b = true) (h : B) : if (!b) = true then A else B := by rw [hb]; exact iteF h
theorem at_int {α : Type} {xs : List α} {i : Int} (h0 : 0 ≤ i) (h : i < xs.length) : ∃ c, atI xs i = some c ∧ c ∈ xs := by
  obtain ⟨j, rfl⟩ : ∃ j : Nat, i = j := ⟨i.toNat, by omega⟩
  have hj : j < xs.length := by omega
  exact ⟨xs[j], atI_nat (by simp [hj]), List.getElem_mem hj⟩
theorem take_snoc {l : List Nat} {i c : Nat} (h : l[i]? = some c) : l.take (i + 1) = l.take i ++ [c] := by
  rw [List.take_succ, h]; rfl
def Pn (c : Nat) : Prop := 32 ≤ c ∧ c ≤ 126 ∧ c ≠ 37
instance (c : Nat) : Decidable (Pn c) := by unfold Pn; exact inferInstance
structure Sg (z : Str) : Prop where
  nd : z.cps.toList.Nodup
  pr : ∀ c ∈ z.cps.toList, Pn c
def Mn (z : Str) : Prop := 0 < z.length ∧ z.length ≤ 100 ∧ ∀ c ∈ z.cps.toList, Pn c
instance (z : Str) : Decidable (Mn z) := by unfold Mn; exact inferInstance
structure Gd (p q f : Str) : Prop where
  gp : Sg p
  gq : Sg q
  gf : Sg f
  p1 : 1 ≤ p.length
  p3 : p.length ≤ 3
  q2 : q.length ≤ 2
  f2 : f.length ≤ 2
def seven (p q f : Str) (b1 b2 b3 b4 : Bool) : List V := [.str p, .str q, .str f, .bl b1, .bl b2, .bl b3, .bl b4]
def dfl (p q f : Str) (b1 b2 b3 b4 : Bool) : List (Str × V) := [("parts", .str p), ("quotes", .str q), ("frees", .str f), ("twin", .bl b1), ("wide", .bl b2), ("thin", .bl b3), ("stray", .bl b4)]
def away (t : Str) (c : Nat) : Bool := !(!(Builtin.Str.occurrences t (sg c) 0 t.length 1).isEmpty)
theorem away_iff (t : Str) (c : Nat) : away t c = true ↔ c ∉ t.cps.toList := by
  unfold away
  have e : (!(Builtin.Str.occurrences t (sg c) 0 t.length 1).isEmpty) = decide (c ∈ t.cps.toList) := StrLaws.found_one t c
  rw [e]
  simp
theorem sg_add {z : Str} {c : Nat} (h : Sg z) (hc : Pn c) (ha : away z c = true) : Sg (z ++ sg c) := by
  have e : (z ++ sg c).cps.toList = z.cps.toList ++ [c] := by
    show (z.cps ++ #[c]).toList = _
    simp
  have hn := (away_iff z c).mp ha
  refine ⟨?_, ?_⟩
  · rw [e, List.nodup_append]
    refine ⟨h.nd, by simp, fun a ha b hb => ?_⟩
    rw [List.mem_singleton.mp hb]
    intro q; exact hn (q ▸ ha)
  · rw [e]
    intro d hd
    rcases List.mem_append.mp hd with z' | z'
    · exact h.pr d z'
    · rw [List.mem_singleton.mp z']; exact hc
theorem sg_nil : Sg (Str.ofString "") := by
  have e : (Str.ofString "").cps.toList = [] := by decide +kernel
  refine ⟨?_, ?_⟩
  · rw [e]; exact List.nodup_nil
  · rw [e]; intro c hc; cases hc
theorem app_len (a b : Str) : (a ++ b).length = a.length + b.length := by
  show (a.cps ++ b.cps).size = _
  rw [Array.size_append]; rfl

theorem sqt_mono {K : PySem.W.Frag} {H H' : Hp} {a : Addr} {xs : List V} (e : Same H H') (h : SqT K H a xs) : SqT K H' a xs := by
  rcases h with (h | ⟨o, h⟩) | h
  · exact .inl (.inl (e _ _ h))
  · exact .inl (.inr ⟨o, e _ _ h⟩)
  · exact .inr h
theorem iteNf {A B : Prop} {b : Bool} (hb : b = false) (h : A) : if (!b) = true then A else B := by rw [hb]; exact iteT h
theorem iteBt {A B : Prop} {b : Bool} (hb : b = true) (h : A) : if b = true then A else B := by rw [hb]; exact iteT h
def inS (c : Nat) (z : Str) : Bool := !(Builtin.Str.occurrences z (sg c) 0 z.length 1).isEmpty
def isS (a b : Str) : Bool := decide (V.str a = V.str b)
inductive Res where
  | go (k w u : Str)
  | flt (w : Str)
def RelR (K : PySem.W.Frag) (H : Hp) (v : V) : Res → Prop
  | .go k w u => isS k (Str.ofString "fault") = false ∧ ∃ a b, v = .ref a ∧ SqT K H a [.str k, .ref b] ∧ SqT K H b [.str w, .str u]
  | .flt w => ∃ a, v = .ref a ∧ SqT K H a [.str (Str.ofString "fault"), .str w]
theorem RelR.mono {K : PySem.W.Frag} {H H' : Hp} {v : V} {r : Res} (e : Same H H') (h : RelR K H v r) : RelR K H' v r := by
  cases r with
  | go k w u => obtain ⟨hk, a, b, e1, e2, e3⟩ := h; exact ⟨hk, a, b, e1, sqt_mono e e2, sqt_mono e e3⟩
  | flt w => obtain ⟨a, e1, e2⟩ := h; exact ⟨a, e1, sqt_mono e e2⟩
theorem ns {a b : String} (h : isS (Str.ofString a) (Str.ofString b) = false) : ¬ isS (Str.ofString a) (Str.ofString b) = true := by rw [h]; decide
theorem no_of {b : Bool} (h : ¬ b = true) : b = false := by cases b <;> simp_all
def tfl (d : Addr) : List (Str × V) := [("dialect", .ref d)]
structure Tn (C CT : Addr) (H : Hp) (y : Addr) (p q f : Str) (b1 b2 b3 b4 : Bool) : Prop where
  ok : ∃ dy d dd, H y = some (.ins CT dy (tfl d)) ∧ H d = some (.ins C dd (dfl p q f b1 b2 b3 b4))
theorem Tn.mono {C CT : Addr} {H H' : Hp} {y : Addr} {p q f : Str} {b1 b2 b3 b4 : Bool} (s : Same H H') (h : Tn C CT H y p q f b1 b2 b3 b4) : Tn C CT H' y p q f b1 b2 b3 b4 := by
  obtain ⟨dy, d, dd, e1, e2⟩ := h.ok
  exact ⟨dy, d, dd, s _ _ e1, s _ _ e2⟩
def Spot (H : Hp) (y : V) : Prop := ∃ a b w u c, y = .ref a ∧ H a = some (.tup [.ref b, .str (sg c)]) ∧ H b = some (.tup [.str w, .str u])
theorem Spot.mono {H H' : Hp} {y : V} (s : Same H H') (h : Spot H y) : Spot H' y := by
  obtain ⟨a, b, w, u, c, e1, e2, e3⟩ := h
  exact ⟨a, b, w, u, c, e1, s _ _ e2, s _ _ e3⟩
theorem Spot.but {H : Hp} {y : V} {l : Addr} {ys : List V} {o : HO} (hl : H l = some (.lst ys)) (h : Spot H y) : Spot (upd H l o) y := by
  obtain ⟨a, b, w, u, c, e1, e2, e3⟩ := h
  exact ⟨a, b, w, u, c, e1, (upd_ne (ne_of e2 hl (by intro z; cases z))).trans e2, (upd_ne (ne_of e3 hl (by intro z; cases z))).trans e3⟩
def RelT (K : PySem.W.Frag) (H : Hp) (x : V) (w : Str × Str) : Prop := ∃ a, x = .ref a ∧ SqT K H a [.str w.1, .str w.2]
theorem RelT.mono {K : PySem.W.Frag} {H H' : Hp} {x : V} {w : Str × Str} (e : Same H H') (h : RelT K H x w) : RelT K H' x w := let ⟨a, e1, e2⟩ := h; ⟨a, e1, sqt_mono e e2⟩
theorem RelT.but {K : PySem.W.Frag} {H : Hp} {x : V} {w : Str × Str} {l : Addr} {ys : List V} {o : HO} (hl : H l = some (.lst ys)) (h : RelT K H x w) : RelT K (upd H l o) x w := by
  obtain ⟨a, e1, e2⟩ := h
  refine ⟨a, e1, ?_⟩
  rcases e2 with (h | ⟨ob, h⟩) | h
  · exact .inl (.inl ((upd_ne (ne_of h hl (by intro z; cases z))).trans h))
  · exact .inl (.inr ⟨ob, (upd_ne (ne_of h hl (by intro z; cases z))).trans h⟩)
  · exact .inr h
def c5 : List (Str × Str) := [(Str.ofString "row", Str.ofString ""), (Str.ofString "cell", Str.ofString ""), (Str.ofString "plain", Str.ofString ""), (Str.ofString "behind", Str.ofString ""), (Str.ofString "freed", Str.ofString "")]
def c3 (c : Nat) : List (Str × Str) := [(Str.ofString "within", sg c), (Str.ofString "doubt", sg c), (Str.ofString "freed", sg c)]
def cont (l : List Nat) : List (Str × Str) := c5 ++ l.flatMap c3
def isRow (w u : Str) : Bool := eqVs [.str w, .str u] [.str (Str.ofString "row"), .str (Str.ofString "")]
theorem inS_iff (c : Nat) (z : Str) : inS c z = decide (c ∈ z.cps.toList) := StrLaws.found_one z c
theorem inS_no {c : Nat} {z : Str} (h : c ∉ z.cps.toList) : ¬ inS c z = true := by rw [inS_iff]; simpa using h
theorem l10 {z : Str} (g : Sg z) : ¬ inS 10 z = true := inS_no fun h => by have := (g.pr 10 h).1; omega
theorem app_list (a b : Str) : (a ++ b).cps.toList = a.cps.toList ++ b.cps.toList := by
  show (a.cps ++ b.cps).toList = _
  simp
theorem sqt_but {K : PySem.W.Frag} {H : Hp} {a l : Addr} {xs ys : List V} {o : HO} (hl : H l = some (.lst ys)) (e2 : SqT K H a xs) : SqT K (upd H l o) a xs := by
  rcases e2 with (h | ⟨ob, h⟩) | h
  · exact .inl (.inl ((upd_ne (ne_of h hl (by intro z; cases z))).trans h))
  · exact .inl (.inr ⟨ob, (upd_ne (ne_of h hl (by intro z; cases z))).trans h⟩)
  · exact .inr h

theorem RelT.but2 {K : PySem.W.Frag} {H : Hp} {x : V} {w : Str × Str} {l : Addr} {ys : List V} {o : HO} (hl : H l = some (.lst ys)) (h : RelT K H x w) : RelT K (upd H l o) x w := by
  obtain ⟨a, e1, e2⟩ := h
  exact ⟨a, e1, sqt_but hl e2⟩
def far (w u : Str) : Nat := if isRow w u = true then 0 else if isS w (Str.ofString "within") = true then 2 else if isS w (Str.ofString "freed") = true then (if isS u (Str.ofString "") = true then 2 else 3) else 1
def FarT (K : PySem.W.Frag) (H : Hp) (n : Nat) (e : V) : Prop := ∃ w u, RelT K H e (w, u) ∧ n ≤ far w u
theorem FarT.mono {K : PySem.W.Frag} {H H' : Hp} {n : Nat} {e : V} (s : Same H H') (h : FarT K H n e) : FarT K H' n e := by
  obtain ⟨w, u, r, q⟩ := h
  exact ⟨w, u, r.mono s, q⟩
theorem FarT.but {K : PySem.W.Frag} {H : Hp} {n : Nat} {e : V} {l : Addr} {ys : List V} {o : HO} (hl : H l = some (.lst ys)) (h : FarT K H n e) : FarT K (upd H l o) n e := by
  obtain ⟨w, u, r, q⟩ := h
  exact ⟨w, u, r.but2 hl, q⟩

theorem take_snocG {α : Type} {l : List α} {i : Nat} {c : α} (h : l[i]? = some c) : l.take (i + 1) = l.take i ++ [c] := by
  rw [List.take_succ, h]; rfl
theorem Tn.but {C CT : Addr} {H : Hp} {y : Addr} {p q f : Str} {b1 b2 b3 b4 : Bool} {l : Addr} {ys : List V} {o : HO} (hl : H l = some (.lst ys)) (h : Tn C CT H y p q f b1 b2 b3 b4) : Tn C CT (upd H l o) y p q f b1 b2 b3 b4 := by
  obtain ⟨dy, d, dd, e1, e2⟩ := h.ok
  exact ⟨dy, d, dd, (upd_ne (ne_of e1 hl (by intro z; cases z))).trans e1, (upd_ne (ne_of e2 hl (by intro z; cases z))).trans e2⟩
structure Gro where
  rows : List (List Str)
  row : List Str
  cell : Str
abbrev Rws (H0 H : Hp) : List V → List (List Str) → Prop := Paired fun e r => ∃ a, e = V.ref a ∧ H0 a = none ∧ H a = some (.lst (r.map V.str))
theorem Rws.mono {H0 H H' : Hp} (s : Same H H') : ∀ {es : List V} {rs : List (List Str)}, Rws H0 H es rs → Rws H0 H' es rs
  | _, _, .nil => .nil
  | _, _, .cons ⟨a, e, n, h⟩ r => .cons ⟨a, e, n, s _ _ h⟩ (Rws.mono s r)
theorem Rws.but {H0 H : Hp} {l : Addr} {o : HO} : ∀ {es : List V} {rs : List (List Str)}, (V.ref l ∉ es) → Rws H0 H es rs → Rws H0 (upd H l o) es rs
  | _, _, _, .nil => .nil
  | _, _, hn, .cons ⟨a, e, n, h⟩ r => by
    subst e
    have : a ≠ l := fun q => hn (by rw [q]; exact List.mem_cons_self ..)
    exact .cons ⟨a, rfl, n, (upd_ne this).trans h⟩ (Rws.but (fun q => hn (List.mem_cons_of_mem _ q)) r)
theorem Rws.has {H0 H : Hp} : ∀ {es : List V} {rs : List (List Str)}, Rws H0 H es rs → ∀ {a : Addr}, V.ref a ∈ es → H0 a = none ∧ ∃ ys, H a = some (.lst ys)
  | _, _, .nil, _, h => by cases h
  | _, _, .cons ⟨b, e, n, h⟩ r, a, ha => by
    rcases List.mem_cons.mp ha with q | q
    · subst e; cases q; exact ⟨n, _, h⟩
    · exact Rws.has r q
theorem same_self {K : PySem.W.Frag} {H : Hp} {xs : List V} (h : xs.all flatV = true) : ∀ (j : Nat) x y, xs[j]? = some x → xs[j]? = some y → SameD K H 1 x y := fun j x y ex ey => by
  rw [ex] at ey; cases ey
  have := List.all_eq_true.mp h x (List.mem_of_getElem? ex)
  exact .flat this this (eqV_self this)

def Ask (K : PySem.W.Frag) (C : Addr) (Ds : List Addr) (f : Nat → Bool) : Prop := ∀ (j : Nat) (D : Addr), Ds[j]? = some D → PySem.W.kitOne K (.ref C) (.ref D) = some (f j)
structure XC1 (K : PySem.W.Frag) (C B : Addr) (Ds : List Addr) (f : Nat → Bool) : Prop where
  cl : ∃ N bm ini, XCl K C N bm ini ∧ XTl K bm
  xk : XKl K C
  ask : Ask K C Ds f
  ba : PySem.W.kitOne K (.ref C) (.ref B) = some true
  ve : PySem.W.kitOne K (.ref C) (.type "ValueError") = some true
def K1 (K : PySem.W.Frag) (H : Hp) (v : V) : Prop := (∃ z : Str, v = .str z ∧ z.length ≤ 10000) ∨ ∃ n, TyOf K H v (.type n) ∧ n ∈ ["NoneType", "bool", "int", "list", "tuple", "dict"]
theorem tyOf_grow {K : PySem.W.Frag} {H H' : Hp} {v : V} {t : Value} (s : Same H H') (h : TyOf K H v t) : TyOf K H' v t := by
  cases h with
  | non => exact .non
  | bl b => exact .bl b
  | int n => exact .int n
  | str z => exact .str z
  | flt z => exact .flt z
  | lst e => exact .lst (s _ _ e)
  | frz e => exact .frz (s _ _ e)
  | tup e => exact .tup (s _ _ e)
  | dK e => exact .dK (s _ _ e)
  | dT e => exact .dT (s _ _ e)
  | ins e a b c d f => exact .ins (s _ _ e) a b c d f
theorem K1.mono {K : PySem.W.Frag} {H H' : Hp} {v : V} (s : Same H H') (h : K1 K H v) : K1 K H' v := by
  rcases h with h | ⟨n, h, hn⟩
  · exact .inl h
  · exact .inr ⟨n, tyOf_grow s h, hn⟩
theorem K1.str {K : PySem.W.Frag} {H : Hp} {z : Str} (h : z.length ≤ 10000) : K1 K H (.str z) := .inl ⟨z, rfl, h⟩
theorem K1.non {K : PySem.W.Frag} {H : Hp} : K1 K H .non := .inr ⟨_, .non, by decide⟩
theorem K1.bl {K : PySem.W.Frag} {H : Hp} {b : Bool} : K1 K H (.bl b) := .inr ⟨_, .bl b, by decide⟩
theorem K1.int {K : PySem.W.Frag} {H : Hp} {n : Int} : K1 K H (.int n) := .inr ⟨_, .int n, by decide⟩
theorem K1.lst {K : PySem.W.Frag} {H : Hp} {a : Addr} {xs : List V} (e : H a = some (.lst xs)) : K1 K H (.ref a) := .inr ⟨_, .lst e, by decide⟩
theorem K1.tup {K : PySem.W.Frag} {H : Hp} {a : Addr} {xs : List V} (e : H a = some (.tup xs)) : K1 K H (.ref a) := .inr ⟨_, .tup e, by decide⟩
theorem kit_no {K : PySem.W.Frag} {n : String} (h : n ∈ ["NoneType", "bool", "int", "list", "tuple", "dict"]) : PySem.W.kitOne K (.type n) (.type "str") = some false := by
  simp only [List.mem_cons, List.not_mem_nil, or_false] at h
  rcases h with rfl | rfl | rfl | rfl | rfl | rfl <;> rfl
theorem kit_bool {K : PySem.W.Frag} {n : String} (h : n ∈ ["NoneType", "bool", "int", "list", "tuple", "dict"]) : PySem.W.kitOne K (.type n) (.type "bool") = some (decide (n = "bool")) := by
  simp only [List.mem_cons, List.not_mem_nil, or_false] at h
  rcases h with rfl | rfl | rfl | rfl | rfl | rfl <;> rfl
theorem kit_tup {K : PySem.W.Frag} {n : String} (h : n ∈ ["NoneType", "bool", "int", "list", "tuple", "dict"]) : PySem.W.kitOne K (.type n) (.type "tuple") = some (decide (n = "tuple")) := by
  simp only [List.mem_cons, List.not_mem_nil, or_false] at h
  rcases h with rfl | rfl | rfl | rfl | rfl | rfl <;> rfl
theorem ty_tup {K : PySem.W.Frag} {H : Hp} {v : V} {n : String} (h : TyOf K H v (.type n)) (e : n = "tuple") : ∃ t ys, v = .ref t ∧ H t = some (.tup ys) := by
  cases h <;> first | exact ⟨_, _, rfl, by assumption⟩ | exact absurd e (by decide)
def isB : V → Bool
  | .bl _ => true
  | _ => false
theorem isB_ex {v : V} (h : isB v = true) : ∃ b, v = .bl b := by cases v <;> first | exact ⟨_, rfl⟩ | cases h
theorem ty_isB {K : PySem.W.Frag} {H : Hp} {v : V} {n : String} (h : TyOf K H v (.type n)) : isB v = decide (n = "bool") := by
  cases h <;> first | rfl | (show _ = decide _; rfl)
def sgB : V → Nat → Nat → Bool
  | .str z, lo, hi => decide (lo ≤ z.length ∧ z.length ≤ hi ∧ z.cps.toList.Nodup ∧ ∀ c ∈ z.cps.toList, Pn c)
  | _, _, _ => false
theorem sg_true {v : V} {lo hi : Nat} (h : sgB v lo hi = true) : ∃ z, v = .str z ∧ Sg z ∧ lo ≤ z.length ∧ z.length ≤ hi := by
  cases v with
  | str z => have h := of_decide_eq_true h; exact ⟨z, rfl, ⟨h.2.2.1, h.2.2.2⟩, h.1, h.2.1⟩
  | _ => cases h
theorem sg_of {z : Str} {lo hi : Nat} (g : Sg z) (h1 : lo ≤ z.length) (h2 : z.length ≤ hi) : sgB (.str z) lo hi = true := decide_eq_true ⟨h1, h2, g.nd, g.pr⟩
theorem ty_sgB {K : PySem.W.Frag} {H : Hp} {v : V} {n : String} {lo hi : Nat} (h : TyOf K H v (.type n)) (hn : n ∈ ["NoneType", "bool", "int", "list", "tuple", "dict"]) : sgB v lo hi = false := by
  cases h with
  | str z => exact absurd hn (by decide)
  | _ => rfl
def G7 (ys : List V) : Prop := ∃ p q f b1 b2 b3 b4, ys = seven p q f b1 b2 b3 b4 ∧ Gd p q f
theorem g7_parts {v1 v2 v3 v4 v5 v6 v7 : V} (h : G7 [v1, v2, v3, v4, v5, v6, v7]) : sgB v1 1 3 = true ∧ sgB v2 0 2 = true ∧ sgB v3 0 2 = true ∧ isB v4 = true ∧ isB v5 = true ∧ isB v6 = true ∧ isB v7 = true := by
  obtain ⟨p, q, f, b1, b2, b3, b4, e, g⟩ := h
  cases e
  exact ⟨sg_of g.gp g.p1 g.p3, sg_of g.gq (Nat.zero_le _) g.q2, sg_of g.gf (Nat.zero_le _) g.f2, rfl, rfl, rfl, rfl⟩
theorem cnt_pos {c : Nat} : ∀ {l : List Nat}, c ∈ l → 1 ≤ PyProof.Rows.cnt c l
  | n :: r, h => by
    rw [PyProof.Rows.cnt_cons]
    have nn : ∀ l : List Nat, 0 ≤ PyProof.Rows.cnt c l := fun l => by
      induction l with
      | nil => exact Int.le_refl _
      | cons m l ih => rw [PyProof.Rows.cnt_cons]; split <;> omega
    have := nn r
    by_cases e : n = c
    · rw [if_pos e]; omega
    · rw [if_neg e]
      have := cnt_pos ((List.mem_cons.mp h).resolve_left (Ne.symm e))
      omega
theorem nodup_cnt : ∀ {l : List Nat}, (∀ c ∈ l, PyProof.Rows.cnt c l = 1) → l.Nodup
  | [], _ => List.nodup_nil
  | n :: r, h => by
    have hn : n ∉ r := fun hm => by
      have h1 := h n (List.mem_cons_self ..)
      rw [PyProof.Rows.cnt_cons, if_pos rfl] at h1
      have := cnt_pos hm
      omega
    refine List.nodup_cons.mpr ⟨hn, nodup_cnt fun c hc => ?_⟩
    have h1 := h c (List.mem_cons_of_mem _ hc)
    rw [PyProof.Rows.cnt_cons, if_neg (fun e : n = c => hn (by rw [e]; exact hc))] at h1
    omega
def okU (z : Str) (c : Nat) : Bool := decide (Pn c) && decide (PyProof.Rows.cnt c z.cps.toList = 1)
theorem all_okU {z : Str} {lo hi : Nat} (h1 : lo ≤ z.length) (h2 : z.length ≤ hi) : z.cps.toList.all (okU z) = sgB (.str z) lo hi := by
  show _ = decide _
  by_cases h : z.cps.toList.all (okU z) = true
  · rw [h]
    have h' := List.all_eq_true.mp h
    refine (decide_eq_true ⟨h1, h2, nodup_cnt fun c hc => ?_, fun c hc => ?_⟩).symm
    · have := h' c hc; unfold okU at this; rw [Bool.and_eq_true] at this; exact of_decide_eq_true this.2
    · have := h' c hc; unfold okU at this; rw [Bool.and_eq_true] at this; exact of_decide_eq_true this.1
  · rw [no_of h]
    refine (decide_eq_false fun ⟨_, _, nd, pr⟩ => h (List.all_eq_true.mpr fun c hc => ?_)).symm
    unfold okU
    rw [decide_eq_true (pr c hc), decide_eq_true (cnt_one nd hc)]; rfl
theorem seven_of {ys : List V} (h : ys.length = 7) : ∃ v1 v2 v3 v4 v5 v6 v7, ys = [v1, v2, v3, v4, v5, v6, v7] := by
  match ys, h with
  | [v1, v2, v3, v4, v5, v6, v7], _ => exact ⟨_, _, _, _, _, _, _, rfl⟩
theorem g7_len {ys : List V} (h : G7 ys) : ys.length = 7 := by obtain ⟨p, q, f, b1, b2, b3, b4, e, g⟩ := h; rw [e]; rfl
theorem same_ins {H : Hp} {x dx C : Addr} (hx : H x = none) (hdx : H dx = none) : Same H (upd (upd H dx (.own x)) x (.ins C dx [])) := fun b o e => by
  rw [upd_ne (ne_of_none e hx), upd_ne (ne_of_none e hdx)]; exact e


theorem str_ext {a b : Str} (h : a.cps.toList = b.cps.toList) : a = b := by
  obtain ⟨x⟩ := a; obtain ⟨y⟩ := b
  have : x = y := Array.toList_inj.mp h
  rw [this]
theorem cut_at {c : Nat} : ∀ {x x' r r' : List Nat}, c ∉ x → c ∉ x' → x ++ c :: r = x' ++ c :: r' → x = x' ∧ r = r'
  | [], [], r, r', _, _, h => ⟨rfl, (List.cons.inj h).2⟩
  | [], b :: x', r, r', _, n', h => absurd (List.cons.inj h).1 fun e => n' (by rw [e]; exact List.mem_cons_self ..)
  | a :: x, [], r, r', n, _, h => absurd (List.cons.inj h).1 fun e => n (by rw [← e]; exact List.mem_cons_self ..)
  | a :: x, b :: x', r, r', n, n', h => by
    obtain ⟨e1, e2⟩ := List.cons.inj h
    obtain ⟨e3, e4⟩ := cut_at (fun q => n (List.mem_cons_of_mem _ q)) (fun q => n' (List.mem_cons_of_mem _ q)) e2
    exact ⟨by rw [e1, e3], e4⟩
theorem join_two (c : Nat) (x y : Str) (r : List Str) : (Str.join (sg c) (x :: y :: r)).cps.toList = x.cps.toList ++ c :: (Str.join (sg c) (y :: r)).cps.toList := by
  show ((x ++ sg c) ++ Str.join (sg c) (y :: r)).cps.toList = _
  rw [app_list, app_list, List.append_assoc]
  rfl
theorem join_inj {c : Nat} : ∀ {ss ts : List Str}, ss ≠ [] → ts ≠ [] → (∀ p ∈ ss, c ∉ p.cps.toList) → (∀ p ∈ ts, c ∉ p.cps.toList) → Str.join (sg c) ss = Str.join (sg c) ts → ss = ts
  | [], _, h, _, _, _, _ => absurd rfl h
  | _ :: _, [], _, h, _, _, _ => absurd rfl h
  | [x], [y], _, _, _, _, h => by rw [show x = y from h]
  | [x], y :: z :: r, _, _, n, _, h => by
    have h : x = Str.join (sg c) (y :: z :: r) := h
    refine absurd ?_ (n x (List.mem_cons_self ..))
    rw [h, join_two]
    exact List.mem_append_right _ (List.mem_cons_self ..)
  | x :: w :: s, [y], _, _, _, n, h => by
    have h : Str.join (sg c) (x :: w :: s) = y := h
    refine absurd ?_ (n y (List.mem_cons_self ..))
    rw [← h, join_two]
    exact List.mem_append_right _ (List.mem_cons_self ..)
  | x :: w :: s, y :: z :: r, _, _, n, n', h => by
    have e := congrArg (fun z : Str => z.cps.toList) h
    have e : (Str.join (sg c) (x :: w :: s)).cps.toList = (Str.join (sg c) (y :: z :: r)).cps.toList := e
    rw [join_two, join_two] at e
    obtain ⟨e1, e2⟩ := cut_at (n x (List.mem_cons_self ..)) (n' y (List.mem_cons_self ..)) e
    have e3 := join_inj (ss := w :: s) (ts := z :: r) (by intro z; cases z) (by intro z; cases z) (fun p hp => n p (List.mem_cons_of_mem _ hp)) (fun p hp => n' p (List.mem_cons_of_mem _ hp)) (str_ext e2)
    rw [str_ext e1, e3]
def numS (c : Nat) : Str := Str.ofString (toString (c : Int))
def valS (z : Str) : Nat := z.cps.toList.foldl (fun n d => n * 10 + (d - 48)) 0
theorem num_all : ∀ c ∈ List.range 127, 32 ∉ (numS c).cps.toList ∧ 43 ∉ (numS c).cps.toList ∧ 45 ∉ (numS c).cps.toList ∧ 1 ≤ (numS c).length ∧ (numS c).length ≤ 3 ∧ valS (numS c) = c := by decide +kernel
inductive Knd (H : Hp) : V → Prop where
  | str (z : Str) : Knd H (.str z)
  | non : Knd H .non
  | bl (b : Bool) : Knd H (.bl b)
  | int (n : Int) : Knd H (.int n)
  | lst {a : Addr} {xs : List V} : H a = some (.lst xs) → xs.all flatV = true → Knd H (.ref a)
  | tup {a : Addr} {xs : List V} : H a = some (.tup xs) → xs.all flatV = true → Knd H (.ref a)
  | dic {a : Addr} {xs : List (Key × V)} : H a = some (.dK xs) → True → Knd H (.ref a)
theorem Knd.mono {H H' : Hp} {v : V} (s : Same H H') (h : Knd H v) : Knd H' v := by
  cases h with
  | str z => exact .str z
  | non => exact .non
  | bl b => exact .bl b
  | int n => exact .int n
  | lst e f => exact .lst (s _ _ e) f
  | tup e f => exact .tup (s _ _ e) f
  | dic e f => exact .dic (s _ _ e) f


def smallc (c : Nat) : Bool := decide (97 ≤ c ∧ c ≤ 122)
theorem small_list : (Str.ofString "abcdefghijklmnopqrstuvwxyz").cps.toList = (List.range 26).map (· + 97) := by decide +kernel
theorem small_in (c : Nat) : (!away (Str.ofString "abcdefghijklmnopqrstuvwxyz") c) = smallc c := by
  have h := away_iff (Str.ofString "abcdefghijklmnopqrstuvwxyz") c
  rw [small_list] at h
  have m : c ∈ (List.range 26).map (· + 97) ↔ (97 ≤ c ∧ c ≤ 122) := by
    rw [List.mem_map]
    constructor
    · rintro ⟨i, hi, rfl⟩; have := List.mem_range.mp hi; omega
    · rintro ⟨h1, h2⟩; exact ⟨c - 97, List.mem_range.mpr (by omega), by omega⟩
  rw [m] at h
  unfold smallc
  by_cases q : 97 ≤ c ∧ c ≤ 122
  · rw [decide_eq_true q]
    cases ha : away (Str.ofString "abcdefghijklmnopqrstuvwxyz") c with
    | false => rfl
    | true => exact absurd q (h.mp ha)
  · rw [decide_eq_false q, h.mpr q]; rfl
theorem em_of {z : Str} (h : z.length = 0) : z = Str.ofString "" := by
  obtain ⟨a⟩ := z
  have : a = #[] := Array.eq_empty_of_size_eq_zero h
  rw [this]; rfl
theorem sum_le {m : Nat} : ∀ {zs : List Str}, (∀ z ∈ zs, z.length ≤ m) → (zs.map (fun x => x.length)).sum ≤ zs.length * m
  | [], _ => Nat.zero_le _
  | z :: zs, h => by
    rw [List.map_cons, List.sum_cons, List.length_cons, Nat.succ_mul]
    have h1 := h z (List.mem_cons_self ..)
    have h2 := sum_le (zs := zs) fun x hx => h x (List.mem_cons_of_mem _ hx)
    omega
def isN : V → Bool
  | .str z => decide (1 ≤ z.length ∧ z.length ≤ 8) && z.cps.toList.all smallc
  | _ => false
def wordS (z : Str) : Str := if z.length = 0 then Str.ofString "-" else Txt.join (Str.ofString "+") (z.cps.toList.map numS)
def bitS (b : Bool) : Str := if b = true then Str.ofString "1" else Str.ofString "0"
def EVS : Str := Str.ofString " !\"#$&'()*+,-./0123456789:;<=>?@ABCDEFGHIJKLMNOPQRSTUVWXYZ\x5b\\]^_`abcdefghijklmnopqrstuvwxyz{|}~"
def PRN : List Nat := (List.range 127).filter fun c => decide (32 ≤ c ∧ c ≠ 37)
theorem pr_list : (Str.ofString " !\"#$&'()*+,-./0123456789:;<=>?@ABCDEFGHIJKLMNOPQRSTUVWXYZ\x5b\\]^_`abcdefghijklmnopqrstuvwxyz{|}~").cps.toList = PRN := by decide +kernel
theorem prn_iff {c : Nat} : c ∈ PRN ↔ Pn c := by
  unfold PRN Pn
  rw [List.mem_filter, List.mem_range, decide_eq_true_iff]
  omega
def fndL (l : List Nat) (s : Str) : List Nat := l.filter fun c => decide (numS c = s)
def sowM : List Str → Option (List Nat)
  | [] => some []
  | p :: r => match fndL PRN p with
    | [] => none
    | c :: _ => (sowM r).map (c :: ·)
def sowV : Option (List Nat) → V
  | some cs => .str ⟨cs.toArray⟩
  | none => .non
theorem sowM_snoc : ∀ (r : List Str) (p : Str), sowM (r ++ [p]) = (sowM r).bind fun cs => match fndL PRN p with | [] => none | c :: _ => some (cs ++ [c])
  | [], p => by
    show sowM [p] = _
    unfold sowM
    cases fndL PRN p <;> rfl
  | q :: r, p => by
    show sowM (q :: (r ++ [p])) = _
    unfold sowM
    cases fndL PRN q with
    | nil => rfl
    | cons c _ =>
      show (sowM (r ++ [p])).map _ = ((sowM r).map _).bind _
      rw [sowM_snoc r p]
      cases sowM r with
      | none => rfl
      | some cs => cases fndL PRN p <;> rfl
theorem sowM_stop {r t : List Str} (h : sowM r = none) : sowM (r ++ t) = none := by
  induction r with
  | nil => cases h
  | cons q r ih =>
    show sowM (q :: (r ++ t)) = none
    unfold sowM at h ⊢
    cases e : fndL PRN q with
    | nil => rfl
    | cons c w =>
      rw [e] at h
      have h : (sowM r).map (c :: ·) = none := h
      show (sowM (r ++ t)).map _ = none
      cases e2 : sowM r with
      | none => rw [ih e2]; rfl
      | some cs => rw [e2] at h; cases h
def SowOk (w : Str) (v : V) : Prop := (w = Str.ofString "-" ∧ v = .str (Str.ofString "")) ∨ (w ≠ Str.ofString "-" ∧ ∃ ss, Str.join (sg 43) ss = w ∧ (∀ p ∈ ss, 43 ∉ p.cps.toList) ∧ ss ≠ [] ∧ v = sowV (sowM ss))
theorem sowM_len : ∀ {ss : List Str} {cs : List Nat}, sowM ss = some cs → cs.length = ss.length
  | [], cs, h => by cases h; rfl
  | p :: r, cs, h => by
    unfold sowM at h
    cases e : fndL PRN p with
    | nil => rw [e] at h; cases h
    | cons c w =>
      rw [e] at h
      have h : (sowM r).map (c :: ·) = some cs := h
      obtain ⟨ds, e2, rfl⟩ := Option.map_eq_some_iff.mp h
      rw [List.length_cons, List.length_cons, sowM_len e2]
theorem join_chars {x : Nat} (c : Nat) (hc : x ≠ c) : ∀ {ss : List Str}, (∀ z ∈ ss, x ∉ z.cps.toList) → x ∉ (Str.join (sg c) ss).cps.toList
  | [], _ => by intro h; cases h
  | [z], h => h z (List.mem_cons_self ..)
  | a :: b :: r, h => by
    rw [join_two]
    intro q
    rcases List.mem_append.mp q with q | q
    · exact h a (List.mem_cons_self ..) q
    · rcases List.mem_cons.mp q with q | q
      · exact hc q
      · exact join_chars c hc (fun z hz => h z (List.mem_cons_of_mem _ hz)) q
theorem wordS_join {z : Str} (h : z.length ≠ 0) : wordS z = Str.join (sg 43) (z.cps.toList.map numS) := by
  have e : wordS z = Txt.join (Str.ofString "+") (z.cps.toList.map numS) := if_neg h
  rw [e, show Txt.join (Str.ofString "+") (z.cps.toList.map numS) = Str.join (Str.ofString "+") (z.cps.toList.map numS) from StrLaws.glued_eq_join _ _]
  rw [show Str.ofString "+" = sg 43 from by decide +kernel]
theorem num_of {c : Nat} (h : Pn c) : 32 ∉ (numS c).cps.toList ∧ 43 ∉ (numS c).cps.toList ∧ 45 ∉ (numS c).cps.toList ∧ 1 ≤ (numS c).length ∧ (numS c).length ≤ 3 ∧ valS (numS c) = c := num_all c (List.mem_range.mpr (by have := h.2.1; omega))
theorem wordS_no {x : Nat} {z : Str} (h : ∀ c ∈ z.cps.toList, Pn c) (hx : x = 32) : x ∉ (wordS z).cps.toList := by
  subst hx
  by_cases h0 : z.length = 0
  · rw [show wordS z = Str.ofString "-" from if_pos h0]; decide +kernel
  · rw [wordS_join h0]
    refine join_chars 43 (by decide) fun y hy => ?_
    obtain ⟨c, hc, rfl⟩ := List.mem_map.mp hy
    exact (num_of (h c hc)).1
def truthS (bs : List Bool) : Str := Txt.join (Str.ofString "") (bs.map bitS)

def trV (c : Nat) : V := if c = 49 then .bl true else if c = 48 then .bl false else .non
theorem l01 : (Str.ofString "01").cps.toList = [48, 49] := by decide +kernel
theorem in01 (c : Nat) : (!(Builtin.Str.occurrences (Str.ofString "01") (sg c) 0 (Str.ofString "01").length 1).isEmpty) = decide (c = 48 ∨ c = 49) := by
  have e : (!(Builtin.Str.occurrences (Str.ofString "01") (sg c) 0 (Str.ofString "01").length 1).isEmpty) = decide (c ∈ (Str.ofString "01").cps.toList) := StrLaws.found_one _ c
  rw [e, l01]
  congr 1
  simp
theorem sg_eq1 {c : Nat} : decide (V.str (sg c) = V.str (Str.ofString "1")) = decide (c = 49) := by
  have e1 : Str.ofString "1" = sg 49 := by decide +kernel
  rw [e1]
  by_cases h : c = 49
  · rw [h, decide_eq_true rfl, decide_eq_true rfl]
  · rw [decide_eq_false h, decide_eq_false]
    intro e
    have e := V.str.inj e
    have e := congrArg (fun z : Str => z.cps.toList) e
    exact h (List.cons.inj e).1
theorem k1_of_sow {K : PySem.W.Frag} {H : Hp} {w : Str} {v : V} (h : SowOk w v) (hw : w.length ≤ 1000) : K1 K H v := by
  rcases h with ⟨_, rfl⟩ | ⟨_, ss, hj, _, _, rfl⟩
  · exact K1.str (by decide +kernel)
  · cases e : sowM ss with
    | none => exact K1.non
    | some cs =>
      refine K1.str ?_
      have hl := sowM_len e
      have hc := join_count 43 ss
      rw [hj] at hc
      show cs.toArray.size ≤ 10000
      simp only [List.size_toArray]
      omega
theorem k1_of_tr {K : PySem.W.Frag} {H : Hp} (c : Nat) : K1 K H (trV c) := by
  unfold trV
  split
  · exact K1.bl
  · split
    · exact K1.bl
    · exact K1.non
theorem join_len (z : Str) (zs : List Str) : (Txt.join z zs).length ≤ (zs.map (·.length)).sum + zs.length * z.length := by
  rw [show Txt.join z zs = Str.join z zs from StrLaws.glued_eq_join _ _]
  exact StrLaws.join_length_le z zs
theorem truthS_len : ∀ b1 b2 b3 b4 : Bool, (truthS [b1, b2, b3, b4]).length ≤ 20 := by decide +kernel
theorem wordS_len {z : Str} (h : (∀ c ∈ z.cps.toList, Pn c) ∧ z.length ≤ 3) : (wordS z).length ≤ 20 := by
  unfold wordS
  split
  · decide +kernel
  · have hsz : z.cps.toList.length = z.length := by rw [Array.length_toList]; rfl
    have hs := sum_le (zs := z.cps.toList.map numS) (m := 3) fun y hy => by
      obtain ⟨c, hc, rfl⟩ := List.mem_map.mp hy
      have := (h.1 c hc).2.1
      exact (num_all c (List.mem_range.mpr (by omega))).2.2.2.2.1
    have l1 : (Str.ofString "+").length = 1 := by decide +kernel
    have hj := join_len (Str.ofString "+") (z.cps.toList.map numS)
    rw [List.length_map, hsz] at hs
    rw [l1, List.length_map, hsz] at hj
    omega
def rowW (n p q f : Str) (b1 b2 b3 b4 : Bool) : Str := Txt.join (Str.ofString " ") [Str.ofString "dialect", n, wordS p, wordS q, wordS f, truthS [b1, b2, b3, b4]]
theorem join_mem_len (c : Nat) : ∀ {ss : List Str} {z : Str}, z ∈ ss → z.length ≤ (Str.join (sg c) ss).length
  | [x], z, h => by rw [List.mem_singleton.mp h]; exact Nat.le_refl _
  | x :: y :: r, z, h => by
    have e : (Str.join (sg c) (x :: y :: r)).length = x.length + 1 + (Str.join (sg c) (y :: r)).length := by
      show (x ++ sg c ++ Str.join (sg c) (y :: r)).length = _
      show ((x.cps ++ (sg c).cps) ++ (Str.join (sg c) (y :: r)).cps).size = _
      rw [Array.size_append, Array.size_append]; rfl
    rw [e]
    rcases List.mem_cons.mp h with rfl | h
    · omega
    · have := join_mem_len c h; omega
theorem sow_fun {w : Str} {v v' : V} (h : SowOk w v) (h' : SowOk w v') : v = v' := by
  rcases h with ⟨e, rfl⟩ | ⟨n, ss, hj, hf, hn, rfl⟩ <;> rcases h' with ⟨e', rfl⟩ | ⟨n', ss', hj', hf', hn', rfl⟩
  · rfl
  · exact absurd e n'
  · exact absurd e' n
  · rw [join_inj hn hn' hf hf' (hj.trans hj'.symm)]
theorem bit_sum : ∀ b1 b2 b3 b4 : Bool, (([bitS b1, bitS b2, bitS b3, bitS b4]).map fun x => x.length).sum + [bitS b1, bitS b2, bitS b3, bitS b4].length * (Str.ofString "").length ≤ 16777216 := by decide +kernel
theorem isN_len {n : Str} (h : isN (.str n) = true) : n.length ≤ 8 := by
  have e : (decide (1 ≤ n.length ∧ n.length ≤ 8) && n.cps.toList.all smallc) = true := h
  rw [Bool.and_eq_true] at e
  exact (of_decide_eq_true e.1).2
theorem tr_truth : ∀ b1 b2 b3 b4 : Bool, (truthS [b1, b2, b3, b4]).cps.toList.map trV = [.bl b1, .bl b2, .bl b3, .bl b4] ∧ 32 ∉ (truthS [b1, b2, b3, b4]).cps.toList := by decide +kernel
theorem ns03 : ¬(HT.sIx 7 0 none = 0 ∧ HT.sIx 7 7 (some 3) = 7) := by decide
theorem ns37 : ¬(HT.sIx 7 0 (some 3) = 0 ∧ HT.sIx 7 7 none = 7) := by decide
theorem find_all : ∀ c ∈ PRN, 0 ≤ Txt.find EVS (sg c) ∧ (if 4 < Txt.find EVS (sg c) then 33 + Txt.find EVS (sg c) else 32 + Txt.find EVS (sg c)) = (c : Int) := by decide +kernel
theorem find_ev (c : Nat) (h : Pn c) : 0 ≤ Txt.find EVS (sg c) ∧ (if 4 < Txt.find EVS (sg c) then 33 + Txt.find EVS (sg c) else 32 + Txt.find EVS (sg c)) = (c : Int) := find_all c (prn_iff.mpr h)
structure RowOf (w n p q f : Str) (b1 b2 b3 b4 : Bool) : Prop where
  ex : ∃ (w1 w2 w3 w4 : Str) (v1 v2 v3 : V), Str.join (sg 32) [Str.ofString "dialect", n, w1, w2, w3, w4] = w ∧ (∀ p ∈ [Str.ofString "dialect", n, w1, w2, w3, w4], 32 ∉ p.cps.toList) ∧ isN (.str n) = true ∧ SowOk w1 v1 ∧ SowOk w2 v2 ∧ SowOk w3 v3 ∧ [v1, v2, v3] ++ w4.cps.toList.map trV = seven p q f b1 b2 b3 b4
  gd : Gd p q f
theorem sev_inj {p q f : Str} {b1 b2 b3 b4 : Bool} {p' q' f' : Str} {b1' b2' b3' b4' : Bool} (h : seven p q f b1 b2 b3 b4 = seven p' q' f' b1' b2' b3' b4') : p = p' ∧ q = q' ∧ f = f' ∧ b1 = b1' ∧ b2 = b2' ∧ b3 = b3' ∧ b4 = b4' := by
  unfold seven at h
  cases h
  exact ⟨rfl, rfl, rfl, rfl, rfl, rfl, rfl⟩
theorem row_fun {w n p q f : Str} {b1 b2 b3 b4 : Bool} {n' p' q' f' : Str} {b1' b2' b3' b4' : Bool} (h : RowOf w n p q f b1 b2 b3 b4) (h' : RowOf w n' p' q' f' b1' b2' b3' b4') : n = n' ∧ p = p' ∧ q = q' ∧ f = f' ∧ b1 = b1' ∧ b2 = b2' ∧ b3 = b3' ∧ b4 = b4' := by
  obtain ⟨x1, x2, x3, x4, u1, u2, u3, e1, e2, e3, o1, o2, o3, e4⟩ := h.ex
  obtain ⟨y1, y2, y3, y4, z1, z2, z3, d1, d2, d3, p1, p2, p3, d4⟩ := h'.ex
  have e := join_inj (by intro z; cases z) (by intro z; cases z) e2 d2 (e1.trans d1.symm)
  injection e with a1 e
  injection e with a2 e
  injection e with a3 e
  injection e with a4 e
  injection e with a5 e
  injection e with a6 e
  subst a2 a3 a4 a5 a6
  obtain rfl := sow_fun o1 p1
  obtain rfl := sow_fun o2 p2
  obtain rfl := sow_fun o3 p3
  exact ⟨rfl, sev_inj (e4.symm.trans d4)⟩
theorem row_len {n p q f : Str} {b1 b2 b3 b4 : Bool} (hN : isN (.str n) = true) (g : Gd p q f) : ∀ w, V.str (rowW n p q f b1 b2 b3 b4) = .str w → w.length ≤ 1000 := fun w e => by
  cases e
  have hj := join_len (Str.ofString " ") [Str.ofString "dialect", n, wordS p, wordS q, wordS f, truthS [b1, b2, b3, b4]]
  have a1 := g.p3; have a2 := g.q2; have a3 := g.f2
  have w1 := wordS_len (z := p) ⟨g.gp.pr, by omega⟩
  have w2 := wordS_len (z := q) ⟨g.gq.pr, by omega⟩
  have w3 := wordS_len (z := f) ⟨g.gf.pr, by omega⟩
  have w4 := truthS_len b1 b2 b3 b4
  have w5 : (Str.ofString "dialect").length = 7 := by decide +kernel
  have w6 : (Str.ofString " ").length = 1 := by decide +kernel
  have w7 := isN_len hN
  simp only [List.map_cons, List.map_nil, List.sum_cons, List.sum_nil, List.length_cons, List.length_nil, w5, w6] at hj
  show (Txt.join _ _).length ≤ 1000
  omega
theorem row_inv {w n p q f : Str} {b1 b2 b3 b4 : Bool} {w0 w1 w2 w3 w4 w5 : Str} (h : RowOf w n p q f b1 b2 b3 b4) (hj : Str.join (sg 32) [w0, w1, w2, w3, w4, w5] = w) (hf : ∀ p ∈ [w0, w1, w2, w3, w4, w5], 32 ∉ p.cps.toList) :
    w0 = Str.ofString "dialect" ∧ isN (.str w1) = true ∧ w1 = n ∧ ∀ v1 v2 v3, SowOk w2 v1 → SowOk w3 v2 → SowOk w4 v3 → [v1, v2, v3] ++ w5.cps.toList.map trV = seven p q f b1 b2 b3 b4 := by
  obtain ⟨x1, x2, x3, x4, u1, u2, u3, e1, e2, e3, o1, o2, o3, e4⟩ := h.ex
  have e := join_inj (by intro z; cases z) (by intro z; cases z) hf e2 (hj.trans e1.symm)
  injection e with a1 e
  injection e with a2 e
  injection e with a3 e
  injection e with a4 e
  injection e with a5 e
  injection e with a6 e
  subst a1 a2 a3 a4 a5 a6
  refine ⟨rfl, e3, rfl, fun v1 v2 v3 p1 p2 p3 => ?_⟩
  rw [sow_fun p1 o1, sow_fun p2 o2, sow_fun p3 o3]
  exact e4

theorem sowM_pn : ∀ {ss : List Str} {cs : List Nat}, sowM ss = some cs → ∀ c ∈ cs, Pn c
  | [], cs, h => by cases h; intro c hc; cases hc
  | p :: r, cs, h => by
    unfold sowM at h
    cases e : fndL PRN p with
    | nil => rw [e] at h; cases h
    | cons d t =>
      rw [e] at h
      have h : (sowM r).map (d :: ·) = some cs := h
      obtain ⟨ds, e2, rfl⟩ := Option.map_eq_some_iff.mp h
      intro c hc
      rcases List.mem_cons.mp hc with rfl | hc
      · exact prn_iff.mp (List.mem_filter.mp (show c ∈ fndL PRN p by rw [e]; exact List.mem_cons_self ..)).1
      · exact sowM_pn e2 c hc
theorem sowM_take : ∀ {ss : List Str} {ds : List Nat} (i : Nat), sowM ss = some ds → sowM (ss.take i) = some (ds.take i)
  | [], ds, i, h => by cases h; simp [sowM]
  | p :: r, ds, 0, h => by simp [sowM]
  | p :: r, ds, i + 1, h => by
    unfold sowM at h
    rw [List.take_succ_cons]
    unfold sowM
    cases e : fndL PRN p with
    | nil => rw [e] at h; cases h
    | cons d t =>
      rw [e] at h
      have h : (sowM r).map (d :: ·) = some ds := h
      obtain ⟨es, e2, rfl⟩ := Option.map_eq_some_iff.mp h
      show (sowM (r.take i)).map (d :: ·) = _
      rw [sowM_take i e2]; rfl
theorem prn_at : ∀ k ∈ List.range 94, PRN[k]? = some (if 4 < k then 33 + k else 32 + k) := by decide +kernel
theorem prn_len : PRN.length = 94 := by decide +kernel
theorem sow_total (w : Str) : ∃ u, SowOk w u := by
  by_cases h : w = Str.ofString "-"
  · exact ⟨_, .inl ⟨h, rfl⟩⟩
  · refine ⟨_, .inr ⟨h, Txt.split w (sg 43), StrLaws.join_split w (sg 43), StrLaws.split_free w 43, ?_, rfl⟩⟩
    intro e
    have hj := StrLaws.join_split w (sg 43)
    rw [e] at hj
    have hw : w = Str.empty := hj.symm
    subst hw
    exact absurd e (by decide +kernel)
theorem cut_two {ns : List Int} {m : Int} (h0 : 0 ≤ m) (h3 : m < 3) : ∃ cs : List Int, cutV (ns.map V.int) (some 3) (some (3 + m)) = cs.map V.int ∧ cs.length ≤ 2 := by
  refine ⟨(ns.drop (HT.sIx (ns.map V.int).length 0 (some 3))).take (HT.sIx (ns.map V.int).length (ns.map V.int).length (some (3 + m)) - HT.sIx (ns.map V.int).length 0 (some 3)), ?_, ?_⟩
  · unfold cutV; rw [List.map_take, List.map_drop]
  · rw [List.length_take]
    refine Nat.le_trans (Nat.min_le_left _ _) ?_
    unfold HT.sIx
    simp only []
    split <;> split <;> omega
theorem pair_same {K : PySem.W.Frag} {H : Hp} {n : Nat} {x a b : V} (h1 : flatV x = true) (h2 : SameD K H n a b) : ∀ (j : Nat) u v, [x, a][j]? = some u → [x, b][j]? = some v → SameD K H n u v := fun j u v e1 e2 => by
  match j, e1, e2 with
  | 0, e1, e2 => cases e1; cases e2; exact .flat h1 h1 (eqV_self h1)
  | 1, e1, e2 => cases e1; cases e2; exact h2
  | j + 2, e1, _ => simp at e1
theorem cut_to (ws : List Str) {j : Nat} (h : j < ws.length) : cutV (ws.map V.str) none (some (j : Int)) = (ws.take j).map V.str := by
  unfold cutV
  rw [HT.sIx_none, HT.sIx_nat, List.length_map, Nat.min_eq_left (by omega), List.map_take]; rfl
theorem cut_from (ws : List Str) {j : Nat} (h : j < ws.length) : cutV (ws.map V.str) (some (j : Int)) none = (ws.drop j).map V.str := by
  unfold cutV
  rw [HT.sIx_none, HT.sIx_nat, List.length_map, Nat.min_eq_left (by omega), List.map_drop, List.take_of_length_le (by rw [List.length_drop, List.length_map]; exact Nat.le_refl _)]
theorem cut_from1 (ws : List Str) {j : Nat} (h : j < ws.length) : cutV (ws.map V.str) (some ((j : Int) + 1)) none = (ws.drop (j + 1)).map V.str := by
  unfold cutV
  rw [HT.sIx_none, show ((j : Int) + 1) = ((j + 1 : Nat) : Int) from rfl, HT.sIx_nat, List.length_map, Nat.min_eq_left (by omega), List.map_drop, List.take_of_length_le (by rw [List.length_drop, List.length_map]; exact Nat.le_refl _)]
def Wds (ws : List Str) (n : Nat) : Prop := ws.length ≤ n ∧ ∀ w ∈ ws, w.length ≤ 50
theorem row_len2 {n p q f : Str} {b1 b2 b3 b4 : Bool} (hN : isN (.str n) = true) (g : Gd p q f) : (rowW n p q f b1 b2 b3 b4).length ≤ 100000 := Nat.le_trans (row_len hN g _ rfl) (by decide)
theorem row_wds {n p q f : Str} {b1 b2 b3 b4 : Bool} {ss : List Str} (g : Gd p q f) (hN : isN (.str n) = true) (hj : Str.join (sg 32) ss = rowW n p q f b1 b2 b3 b4) (hf : ∀ p ∈ ss, 32 ∉ p.cps.toList) (hne : ss ≠ []) : Wds ss 6 := by
  have a1 := g.p3; have a2 := g.q2; have a3 := g.f2
  have hw2 : ∀ y ∈ [Str.ofString "dialect", n, wordS p, wordS q, wordS f, truthS [b1, b2, b3, b4]], 32 ∉ y.cps.toList := by
    intro y hy
    simp only [List.mem_cons, List.not_mem_nil, or_false] at hy
    rcases hy with rfl | rfl | rfl | rfl | rfl | rfl
    · decide +kernel
    · intro h
      have e : (decide (1 ≤ y.length ∧ y.length ≤ 8) && y.cps.toList.all smallc) = true := hN
      rw [Bool.and_eq_true] at e
      have := List.all_eq_true.mp e.2 32 h
      exact absurd this (by decide)
    · exact wordS_no g.gp.pr rfl
    · exact wordS_no g.gq.pr rfl
    · exact wordS_no g.gf.pr rfl
    · exact (tr_truth b1 b2 b3 b4).2
  have e : Str.join (sg 32) [Str.ofString "dialect", n, wordS p, wordS q, wordS f, truthS [b1, b2, b3, b4]] = rowW n p q f b1 b2 b3 b4 := by
    show _ = Txt.join (Str.ofString " ") _
    rw [show Txt.join (Str.ofString " ") [Str.ofString "dialect", n, wordS p, wordS q, wordS f, truthS [b1, b2, b3, b4]] = Str.join (Str.ofString " ") [Str.ofString "dialect", n, wordS p, wordS q, wordS f, truthS [b1, b2, b3, b4]] from StrLaws.glued_eq_join _ _]
    rw [show Str.ofString " " = sg 32 from by decide +kernel]
  have e2 := join_inj hne (by intro z; cases z) hf hw2 (hj.trans e.symm)
  subst e2
  refine ⟨Nat.le_refl _, fun y hy => ?_⟩
  have w7 := isN_len hN
  have w1 := wordS_len (z := p) ⟨g.gp.pr, by omega⟩
  have w2 := wordS_len (z := q) ⟨g.gq.pr, by omega⟩
  have w3 := wordS_len (z := f) ⟨g.gf.pr, by omega⟩
  have w4 := truthS_len b1 b2 b3 b4
  simp only [List.mem_cons, List.not_mem_nil, or_false] at hy
  rcases hy with rfl | rfl | rfl | rfl | rfl | rfl
  · decide +kernel
  · omega
  · omega
  · omega
  · omega
  · omega
theorem join_end (c : Nat) : ∀ (ss : List Str) (z : Str), ∃ pre, (Str.join (sg c) (ss ++ [z])).cps.toList = pre ++ z.cps.toList
  | [], z => ⟨[], rfl⟩
  | [x], z => ⟨x.cps.toList ++ [c], by show (Str.join (sg c) (x :: z :: [])).cps.toList = _; rw [join_two, List.append_assoc]; rfl⟩
  | x :: y :: r, z => by
    obtain ⟨pre, e⟩ := join_end c (y :: r) z
    refine ⟨x.cps.toList ++ c :: pre, ?_⟩
    show (Str.join (sg c) (x :: y :: (r ++ [z]))).cps.toList = _
    rw [join_two, show Str.join (sg c) (y :: (r ++ [z])) = Str.join (sg c) (y :: r ++ [z]) from rfl, e]
    simp
theorem no_row_line {w n p q f : Str} {b1 b2 b3 b4 : Bool} : ¬ RowOf (w ++ sg 10) n p q f b1 b2 b3 b4 := fun h => by
  obtain ⟨x1, x2, x3, x4, u1, u2, u3, e1, e2, e3, o1, o2, o3, e4⟩ := h.ex
  obtain ⟨pre, e5⟩ := join_end 32 [Str.ofString "dialect", n, x1, x2, x3] x4
  have e6 := congrArg (fun z : Str => z.cps.toList) e1
  have e6 : (Str.join (sg 32) ([Str.ofString "dialect", n, x1, x2, x3] ++ [x4])).cps.toList = (w ++ sg 10).cps.toList := e6
  rw [e5, app_list] at e6
  injection e4 with _ e4; injection e4 with _ e4; injection e4 with _ e4
  have e4 : x4.cps.toList.map trV = [.bl b1, .bl b2, .bl b3, .bl b4] := e4
  cases hx : x4.cps.toList.reverse with
  | nil =>
    have : x4.cps.toList = [] := by simpa using hx
    rw [this] at e4; cases e4
  | cons d r =>
    have hx2 : x4.cps.toList = r.reverse ++ [d] := by rw [← List.reverse_reverse x4.cps.toList, hx]; simp
    rw [hx2, ← List.append_assoc] at e6
    have e7 : d = 10 := by
      have e8 := congrArg List.getLast? e6
      rw [List.getLast?_concat] at e8
      rw [show (sg 10).cps.toList = [10] from rfl, List.getLast?_concat] at e8
      exact Option.some.inj e8
    have hm : trV 10 ∈ x4.cps.toList.map trV := List.mem_map.mpr ⟨10, by rw [hx2, e7]; simp, rfl⟩
    rw [e4] at hm
    have : trV 10 = .non := by decide
    rw [this] at hm
    simp at hm
theorem no_row_blank {w n p q f : Str} {b1 b2 b3 b4 : Bool} : ¬ RowOf (sg 32 ++ w) n p q f b1 b2 b3 b4 := fun h => by
  obtain ⟨x1, x2, x3, x4, u1, u2, u3, e1, e2, e3, o1, o2, o3, e4⟩ := h.ex
  have e6 := congrArg (fun z : Str => z.cps.toList) e1
  have e6 : (Str.join (sg 32) (Str.ofString "dialect" :: n :: [x1, x2, x3, x4])).cps.toList = (sg 32 ++ w).cps.toList := e6
  rw [join_two, app_list, show (Str.ofString "dialect").cps.toList = [100, 105, 97, 108, 101, 99, 116] from by decide +kernel] at e6
  exact absurd (List.cons.inj e6).1 (by decide)
theorem no_row_empty {n p q f : Str} {b1 b2 b3 b4 : Bool} : ¬ RowOf (Str.ofString "") n p q f b1 b2 b3 b4 := fun h => by
  obtain ⟨x1, x2, x3, x4, u1, u2, u3, e1, e2, e3, o1, o2, o3, e4⟩ := h.ex
  have e6 := congrArg (fun z : Str => z.cps.toList) e1
  have e6 : (Str.join (sg 32) (Str.ofString "dialect" :: n :: [x1, x2, x3, x4])).cps.toList = (Str.ofString "").cps.toList := e6
  rw [join_two, show (Str.ofString "dialect").cps.toList = [100, 105, 97, 108, 101, 99, 116] from by decide +kernel, show (Str.ofString "").cps.toList = [] from by decide +kernel] at e6
  cases e6
theorem rows_wds {ws : List Str} {n : Nat} (h : Wds ws n) (hn : n ≤ 8) : (Str.join (sg 32) ws).length ≤ 500 := by
  have hj := StrLaws.join_length_le (sg 32) ws
  have hs : (ws.map (·.length)).sum ≤ ws.length * 50 := sum_le h.2
  have h1 := h.1
  rw [show (sg 32).length = 1 from rfl] at hj
  have : ws.length * 50 ≤ 8 * 50 := Nat.mul_le_mul_right _ (by omega)
  omega

theorem spoilt_read {K : PySem.W.Frag} {H : Hp} {Q : VK} {l : Addr} {ws : List Str} {c : Int} {n : Nat} {spn : Sp} (hspn : ∀ (c s : Int) (H : Hp) (Q : VK) (E : XK), 0 ≤ s → s < 60000 → (∀ r : Int, Q (.int r) H) → spn [.int c, .int s] H Q E) (os1 os2 : List Str) (o3 o4 : Str) (ho1 : ∀ w ∈ os1, w.length ≤ 50) (ho2 : ∀ w ∈ os2, w.length ≤ 50) (ho3 : o3.length ≤ 50) (ho4 : o4.length ≤ 50) (lo1 : os1.length ≤ 20) (lo2 : os2.length ≤ 20)
    (hl : H l = some (.lst (ws.map V.str))) (hne : ws ≠ []) (hw1 : ws.length ≤ n) (hw2 : ∀ w ∈ ws, w.length ≤ 50) (hn : n ≤ 100) (k : ∀ l' us H', H' l' = some (.lst (us.map V.str)) → Wds us (n + 1) → Same H H' → Q (.ref l') H') {x1 x2 x3 x4 x5 x6 : Str} :
    tSeq (tAsg (tCall spn [] E0 (tCons (tVar 1) (tCons (tC (V.int 79)) tNil))) (gName 2))
    (tSeq (tAsg (tOp (rI (fun x j => 0 < j) fun i j => V.int (i % j)) (tVar 2) (tC (V.int 6))) (gName 3))
      (tSeq (tAsg (tOp (rI CDiv fun i j => V.int (i / j)) (tVar 2) (tC (V.int 6))) (gName 2))
        (tSeq
          (tAsg
            (tOp (rI (fun x j => 0 < j) fun i j => V.int (i % j)) (tVar 2)
              (tCB (fun xs H Q => ∃ p ys, xs = [V.ref p] ∧ (SqL K H p ys ∨ SqT K H p ys) ∧ Q (V.int ↑ys.length) H)
                (tCons (tVar 0) tNil)))
            (gName 4))
          (tSeq
            (tAsg
              (tOp (rI CDiv fun i j => V.int (i / j)) (tVar 2)
                (tCB (fun xs H Q => ∃ p ys, xs = [V.ref p] ∧ (SqL K H p ys ∨ SqT K H p ys) ∧ Q (V.int ↑ys.length) H)
                  (tCons (tVar 0) tNil)))
              (gName 2))
            (tSeq
              (tIfS (tTest (tOp rEq (tVar 3) (tC (V.int 0))))
                (tRet
                  (tOp rCat (tSl (rSlL K) (tVar 0) tNoPart (tPart (tVar 4)))
                    (tSl (rSlL K) (tVar 0) (tPart (tOp (rI0 fun i j => V.int (i + j)) (tVar 4) (tC (V.int 1))))
                      tNoPart)))
                tNext)
              (tSeq
                (tIfS (tTest (tOp rEq (tVar 3) (tC (V.int 1))))
                  (tRet
                    (tOp rCat
                      (tOp rCat (tSl (rSlL K) (tVar 0) tNoPart (tPart (tVar 4)))
                        (tLst (tCons (tOp (rIxL K) (tVar 0) (tVar 4)) tNil)))
                      (tSl (rSlL K) (tVar 0) (tPart (tVar 4)) tNoPart)))
                  tNext)
                (tSeq
                  (tAsg
                    (tLst
                      (tCs (os1.map V.str)))
                    (gName 5))
                  (tSeq
                    (tAsg
                      (tOp rCat (tVar 5)
                        (tLst
                          (tCs (os2.map V.str))))
                      (gName 5))
                    (tSeq
                      (tAsg
                        (tOp rCat (tVar 5)
                          (tLst
                            (tCons (tC (V.str o3))
                              (tCons (tC (V.str o4)) tNil))))
                        (gName 5))
                      (tRet
                        (tOp rCat
                          (tOp rCat (tSl (rSlL K) (tVar 0) tNoPart (tPart (tVar 4)))
                            (tLst
                              (tCons
                                (tOp (rIxL K) (tVar 5)
                                  (tOp (rI (fun x j => 0 < j) fun i j => V.int (i % j)) (tVar 2)
                                    (tCB
                                      (fun xs H Q =>
                                        ∃ p ys, xs = [V.ref p] ∧ (SqL K H p ys ∨ SqT K H p ys) ∧ Q (V.int ↑ys.length) H)
                                      (tCons (tVar 5) tNil))))
                                tNil)))
                          (tSl (rSlL K) (tVar 0) (tPart (tOp (rI0 fun i j => V.int (i + j)) (tVar 4) (tC (V.int 1))))
                            tNoPart))))))))))))
    { nx := fun x H' => Q V.non H', rt := Q }
    (L2.start [x1, x2, x3, x4, x5, x6] [V.ref l, V.int c])
    H := by
  have hpos : 0 < ws.length := List.length_pos_iff.mpr hne
  have hp : 0 < (((ws.map V.str).length : Nat) : Int) := by rw [List.length_map]; omega
  have hp2 : (((ws.map V.str).length : Nat) : Int) < 1073741824 := by rw [List.length_map]; omega
  refine ⟨_, rfl, hspn _ _ _ _ _ (by decide) (by decide) fun r => ?_⟩
  refine ⟨_, rfl, _, _, rfl, rfl, (by omega), _, rfl, _, _, rfl, rfl, ⟨(by omega), (by omega)⟩, _, rfl, _, rfl, _, _, rfl, .inl (SqL.of hl), _, _, rfl, rfl, (by omega), _, rfl, _, rfl, _, _, rfl, .inl (SqL.of hl), _, _, rfl, rfl, ⟨(by omega), (by omega)⟩, _, rfl, rfl, _, rfl, ?_⟩
  have w0 := Int.emod_nonneg r (show (6 : Int) ≠ 0 by decide)
  have a0 := Int.emod_nonneg (r / 6) (show (((ws.map V.str).length : Nat) : Int) ≠ 0 by omega)
  have a1 := Int.emod_lt_of_pos (r / 6) hp
  dsimp only
  generalize r / 6 % (((ws.map V.str).length : Nat) : Int) = at1 at a0 a1 ⊢
  generalize r / 6 / (((ws.map V.str).length : Nat) : Int) = r2
  rw [List.length_map] at a1
  obtain ⟨j, rfl⟩ : ∃ j : Nat, at1 = j := ⟨at1.toNat, by omega⟩
  have hj : j < ws.length := by omega
  have eT : cutV (ws.map V.str) none (some (j : Int)) = (ws.take j).map V.str := cut_to _ hj
  have eD1 : cutV (ws.map V.str) (some ((j : Int) + 1)) none = (ws.drop (j + 1)).map V.str := cut_from1 _ hj
  have eD0 : cutV (ws.map V.str) (some (j : Int)) none = (ws.drop j).map V.str := cut_from _ hj
  have lT : (ws.take j).length = j := by rw [List.length_take]; omega
  have lD1 : (ws.drop (j + 1)).length = ws.length - (j + 1) := List.length_drop
  have lD0 : (ws.drop j).length = ws.length - j := List.length_drop
  have mT : ∀ w ∈ ws.take j, w.length ≤ 50 := fun w h => hw2 w (List.mem_of_mem_take h)
  have mD1 : ∀ w ∈ ws.drop (j + 1), w.length ≤ 50 := fun w h => hw2 w (List.mem_of_mem_drop h)
  have mD0 : ∀ w ∈ ws.drop j, w.length ≤ 50 := fun w h => hw2 w (List.mem_of_mem_drop h)
  have big : ∀ x y : Nat, x + y ≤ 1000 → x + y ≤ sizeLine := fun x y h => Nat.le_trans h (by decide)
  have wd2 : ∀ (a b : List Str), (∀ w ∈ a, w.length ≤ 50) → (∀ w ∈ b, w.length ≤ 50) → ∀ w ∈ a ++ b, w.length ≤ 50 := fun a b h1 h2 w hw => by
    rcases List.mem_append.mp hw with h | h
    · exact h1 w h
    · exact h2 w h
  refine rd2i (fun e => ?_) (fun e => ?_)
  · have b1 := big ((ws.take j).map V.str).length ((ws.drop (j + 1)).map V.str).length (by rw [List.length_map, List.length_map, lT, lD1]; omega)
    refine ⟨_, rfl, _, rfl, _, rfl, _, _, rfl, SqL.of hl, fun l1 hl1 => ⟨_, rfl, _, rfl, _, _, rfl, rfl, _, rfl, _, _, rfl, SqL.of (same_new hl1 _ _ hl), ?_⟩⟩
    rw [eT]
    (have sa := same_new (o := HO.lst (List.map V.str (List.take j ws))) hl1; have qa := upd_same (H := H) (a := l1) (o := HO.lst (List.map V.str (List.take j ws))); generalize upd H l1 (HO.lst (List.map V.str (List.take j ws))) = Ha at sa qa ⊢)
    intro l2 hl2
    rw [eD1]
    (have sb := same_new (o := HO.lst (List.map V.str (List.drop (j + 1) ws))) hl2; have qb := upd_same (H := Ha) (a := l2) (o := HO.lst (List.map V.str (List.drop (j + 1) ws))); generalize upd Ha l2 (HO.lst (List.map V.str (List.drop (j + 1) ws))) = Hb at sb qb ⊢)
    refine ⟨_, _, _, _, rfl, rfl, (sb _ _ qa), qb, (by omega), fun l3 hl3 => ?_⟩
    rw [← List.map_append]
    (have sc := same_new (o := HO.lst (List.map V.str (List.take j ws ++ List.drop (j + 1) ws))) hl3; have qc := upd_same (H := Hb) (a := l3) (o := HO.lst (List.map V.str (List.take j ws ++ List.drop (j + 1) ws))); generalize upd Hb l3 (HO.lst (List.map V.str (List.take j ws ++ List.drop (j + 1) ws))) = Hc at sc qc ⊢)
    refine k _ _ _ qc ?_ ((sa.trans sb).trans sc)
    exact ⟨by rw [List.length_append, lT, lD1]; omega, wd2 _ _ mT mD1⟩
  refine ⟨_, rfl, rfl, _, rfl, ?_⟩
  have one : ∀ (wj : Str) (xs : List Str), wj.length ≤ 50 → (∀ w ∈ xs, w.length ≤ 50) → xs.length + j + 1 ≤ n + 1 → Wds (ws.take j ++ [wj] ++ xs) (n + 1) := fun wj xs h1 h2 h3 => ⟨by rw [List.length_append, List.length_append, lT]; show j + 1 + xs.length ≤ _; omega, wd2 _ _ (wd2 _ _ mT (by intro w hw; rw [List.mem_singleton.mp hw]; exact h1)) h2⟩
  refine rd2i (fun e => ?_) (fun e => ?_)
  · obtain ⟨wj, hwj⟩ : ∃ wj, ws[j]? = some wj := ⟨ws[j], by simp [hj]⟩
    have aj : atI (ws.map V.str) (j : Int) = some (.str wj) := atI_nat (by rw [List.getElem?_map, hwj]; rfl)
    have mj := hw2 wj (List.mem_of_getElem? hwj)
    have b2 := big ((ws.take j).map V.str).length [V.str wj].length (by rw [List.length_map, lT]; show j + 1 ≤ 1000; omega)
    have b3 := big ((ws.take j).map V.str ++ [V.str wj]).length ((ws.drop j).map V.str).length (by rw [List.length_append, List.length_map, List.length_map, lT, lD0]; show j + 1 + _ ≤ 1000; omega)
    refine ⟨_, rfl, _, rfl, _, rfl, _, _, rfl, SqL.of hl, fun l1 hl1 => ⟨_, rfl, _, rfl, _, _, _, _, rfl, rfl, SqL.of (same_new hl1 _ _ hl), aj, (by omega), ?_⟩⟩
    rw [eT]
    (have sa := same_new (o := HO.lst (List.map V.str (List.take j ws))) hl1; have qa := upd_same (H := H) (a := l1) (o := HO.lst (List.map V.str (List.take j ws))); generalize upd H l1 (HO.lst (List.map V.str (List.take j ws))) = Ha at sa qa ⊢)
    refine fun l2 hl2 => ⟨_, _, _, _, rfl, rfl, (same_new hl2 _ _ qa), upd_same, (by omega), ?_⟩
    (have sb := same_new (o := HO.lst [V.str wj]) hl2; have qb := upd_same (H := Ha) (a := l2) (o := HO.lst [V.str wj]); generalize upd Ha l2 (HO.lst [V.str wj]) = Hb at sb qb ⊢)
    refine fun l3 hl3 => ⟨_, rfl, _, rfl, _, rfl, _, _, rfl, SqL.of (same_new hl3 _ _ (sb _ _ (sa _ _ hl))), ?_⟩
    (have sc := same_new (o := HO.lst (List.map V.str (List.take j ws) ++ [V.str wj])) hl3; have qc := upd_same (H := Hb) (a := l3) (o := HO.lst (List.map V.str (List.take j ws) ++ [V.str wj])); generalize upd Hb l3 (HO.lst (List.map V.str (List.take j ws) ++ [V.str wj])) = Hc at sc qc ⊢)
    intro l4 hl4
    rw [eD0]
    (have sd := same_new (o := HO.lst (List.map V.str (List.drop j ws))) hl4; have qd := upd_same (H := Hc) (a := l4) (o := HO.lst (List.map V.str (List.drop j ws))); generalize upd Hc l4 (HO.lst (List.map V.str (List.drop j ws))) = Hd at sd qd ⊢)
    refine ⟨_, _, _, _, rfl, rfl, (sd _ _ qc), qd, (by omega), fun l5 hl5 => ?_⟩
    have e5 : (ws.take j).map V.str ++ [V.str wj] ++ (ws.drop j).map V.str = (ws.take j ++ [wj] ++ ws.drop j).map V.str := by simp
    rw [e5]
    (have se := same_new (o := HO.lst (List.map V.str (List.take j ws ++ [wj] ++ List.drop j ws))) hl5; have qe := upd_same (H := Hd) (a := l5) (o := HO.lst (List.map V.str (List.take j ws ++ [wj] ++ List.drop j ws))); generalize upd Hd l5 (HO.lst (List.map V.str (List.take j ws ++ [wj] ++ List.drop j ws))) = He at se qe ⊢)
    refine k _ _ _ qe ?_ ((((sa.trans sb).trans sc).trans sd).trans se)
    exact one _ _ mj mD0 (by rw [lD0]; omega)
  have lq : (os1.map V.str).length ≤ sizeLine := by rw [List.length_map]; exact Nat.le_trans lo1 (by decide)
  have lq2 : (os2.map V.str).length ≤ sizeLine := by rw [List.length_map]; exact Nat.le_trans lo2 (by decide)
  have b4 := big (os1.map V.str).length (os2.map V.str).length (by rw [List.length_map, List.length_map]; omega)
  have b5 := big (os1.map V.str ++ os2.map V.str).length [V.str o3, V.str o4].length (by rw [List.length_append, List.length_map, List.length_map]; show _ + 2 ≤ 1000; omega)
  refine ⟨(by omega), fun l1 hl1 => ⟨_, rfl, (by omega), ?_⟩⟩
  (have sa := same_new (o := HO.lst (List.map V.str os1)) hl1; have qa := upd_same (H := H) (a := l1) (o := HO.lst (List.map V.str os1)); generalize upd H l1 (HO.lst (List.map V.str os1)) = Ha at sa qa ⊢)
  refine fun l2 hl2 => ⟨_, _, _, _, rfl, rfl, (same_new hl2 _ _ qa), upd_same, (by omega), ?_⟩
  (have sb := same_new (o := HO.lst (List.map V.str os2)) hl2; have qb := upd_same (H := Ha) (a := l2) (o := HO.lst (List.map V.str os2)); generalize upd Ha l2 (HO.lst (List.map V.str os2)) = Hb at sb qb ⊢)
  refine fun l3 hl3 => ⟨_, rfl, (by omega), ?_⟩
  (have sc := same_new (o := HO.lst (List.map V.str os1 ++ List.map V.str os2)) hl3; have qc := upd_same (H := Hb) (a := l3) (o := HO.lst (List.map V.str os1 ++ List.map V.str os2)); generalize upd Hb l3 (HO.lst (List.map V.str os1 ++ List.map V.str os2)) = Hc at sc qc ⊢)
  refine fun l4 hl4 => ⟨_, _, _, _, rfl, rfl, (same_new hl4 _ _ qc), upd_same, (by omega), ?_⟩
  (have sd := same_new (o := HO.lst [V.str o3, V.str o4]) hl4; have qd := upd_same (H := Hc) (a := l4) (o := HO.lst [V.str o3, V.str o4]); generalize upd Hc l4 (HO.lst [V.str o3, V.str o4]) = Hd at sd qd ⊢)
  refine fun l5 hl5 => ⟨_, rfl, _, rfl, _, rfl, _, _, rfl, SqL.of (same_new hl5 _ _ (sd _ _ (sc _ _ (sb _ _ (sa _ _ hl))))), ?_⟩
  have e5 : os1.map V.str ++ os2.map V.str ++ [V.str o3, V.str o4] = (os1 ++ os2 ++ [o3, o4]).map V.str := by simp
  rw [e5]
  (have se := same_new (o := HO.lst (List.map V.str (os1 ++ os2 ++ [o3, o4]))) hl5; have qe := upd_same (H := Hd) (a := l5) (o := HO.lst (List.map V.str (os1 ++ os2 ++ [o3, o4]))); generalize upd Hd l5 (HO.lst (List.map V.str (os1 ++ os2 ++ [o3, o4]))) = He at se qe ⊢)
  have mo : ∀ w ∈ os1 ++ os2 ++ [o3, o4], w.length ≤ 50 := wd2 _ _ (wd2 _ _ ho1 ho2) (by intro w hw; simp only [List.mem_cons, List.not_mem_nil, or_false] at hw; rcases hw with rfl | rfl <;> assumption)
  have ho0 : 0 < (((os1 ++ os2 ++ [o3, o4]).map V.str).length : Int) := by rw [List.length_map, List.length_append]; show (0 : Int) < ((_ + 2 : Nat) : Int); omega
  generalize os1 ++ os2 ++ [o3, o4] = os at qe mo ho0 ⊢
  have r0 := Int.emod_nonneg r2 (show (((os.map V.str).length : Nat) : Int) ≠ 0 by omega)
  have r1 := Int.emod_lt_of_pos r2 ho0
  obtain ⟨v, ev, hv⟩ := at_int r0 r1
  obtain ⟨wj, hwj, rfl⟩ := List.mem_map.mp hv
  have mj := mo wj hwj
  have b2 := big ((ws.take j).map V.str).length [V.str wj].length (by rw [List.length_map, lT]; show j + 1 ≤ 1000; omega)
  have b3 := big ((ws.take j).map V.str ++ [V.str wj]).length ((ws.drop (j + 1)).map V.str).length (by rw [List.length_append, List.length_map, List.length_map, lT, lD1]; show j + 1 + _ ≤ 1000; omega)
  refine fun l6 hl6 => ⟨_, rfl, _, rfl, _, rfl, _, _, rfl, .inl (SqL.of (same_new hl6 _ _ qe)), _, _, rfl, rfl, (by omega), _, _, _, _, rfl, rfl, SqL.of (same_new hl6 _ _ qe), ev, (by omega), ?_⟩
  rw [eT]
  (have sf := same_new (o := HO.lst (List.map V.str (List.take j ws))) hl6; have qf := upd_same (H := He) (a := l6) (o := HO.lst (List.map V.str (List.take j ws))); generalize upd He l6 (HO.lst (List.map V.str (List.take j ws))) = Hf at sf qf ⊢)
  refine fun l7 hl7 => ⟨_, _, _, _, rfl, rfl, (same_new hl7 _ _ qf), upd_same, (by omega), ?_⟩
  (have sg' := same_new (o := HO.lst [V.str wj]) hl7; have qg := upd_same (H := Hf) (a := l7) (o := HO.lst [V.str wj]); generalize upd Hf l7 (HO.lst [V.str wj]) = Hg at sg' qg ⊢)
  refine fun l8 hl8 => ⟨_, rfl, _, rfl, _, _, rfl, rfl, _, rfl, _, _, rfl, SqL.of (same_new hl8 _ _ (sg' _ _ (sf _ _ (se _ _ (sd _ _ (sc _ _ (sb _ _ (sa _ _ hl)))))))), ?_⟩
  (have sh := same_new (o := HO.lst (List.map V.str (List.take j ws) ++ [V.str wj])) hl8; have qh := upd_same (H := Hg) (a := l8) (o := HO.lst (List.map V.str (List.take j ws) ++ [V.str wj])); generalize upd Hg l8 (HO.lst (List.map V.str (List.take j ws) ++ [V.str wj])) = Hh at sh qh ⊢)
  intro l9 hl9
  rw [eD1]
  (have si := same_new (o := HO.lst (List.map V.str (List.drop (j + 1) ws))) hl9; have qi := upd_same (H := Hh) (a := l9) (o := HO.lst (List.map V.str (List.drop (j + 1) ws))); generalize upd Hh l9 (HO.lst (List.map V.str (List.drop (j + 1) ws))) = Hi at si qi ⊢)
  refine ⟨_, _, _, _, rfl, rfl, (si _ _ qh), qi, (by omega), fun l10 hl10 => ?_⟩
  have e6 : (ws.take j).map V.str ++ [V.str wj] ++ (ws.drop (j + 1)).map V.str = (ws.take j ++ [wj] ++ ws.drop (j + 1)).map V.str := by simp
  rw [e6]
  (have sj := same_new (o := HO.lst (List.map V.str (List.take j ws ++ [wj] ++ List.drop (j + 1) ws))) hl10; have qj := upd_same (H := Hi) (a := l10) (o := HO.lst (List.map V.str (List.take j ws ++ [wj] ++ List.drop (j + 1) ws))); generalize upd Hi l10 (HO.lst (List.map V.str (List.take j ws ++ [wj] ++ List.drop (j + 1) ws))) = Hj at sj qj ⊢)
  refine k _ _ _ qj ?_ (((((((((sa.trans sb).trans sc).trans sd).trans se).trans sf).trans sg').trans sh).trans si).trans sj)
  exact one _ _ mj mD1 (by rw [lD1]; omega)

theorem sc_is_printable : FnScope ["sign", "number"] ["sign"] (defScope s_is_printable) := ⟨rfl, rfl, rfl, by decide +kernel, rfl, by decide +kernel, by decide +kernel⟩
theorem sc_are_unlike_signs : FnScope ["thing", "least", "most"] ["thing", "least", "most"] (defScope s_are_unlike_signs) := ⟨rfl, rfl, rfl, by decide +kernel, rfl, by decide +kernel, by decide +kernel⟩
theorem sc_Dialect___init__ : FnScope ["self", "parts", "quotes", "frees", "twin", "wide", "thin", "stray", "truth"] ["self", "parts", "quotes", "frees", "twin", "wide", "thin", "stray"] (defScope s_Dialect___init__) := ⟨rfl, rfl, rfl, by decide +kernel, rfl, by decide +kernel, by decide +kernel⟩
theorem sc_Dialect_told : FnScope ["self"] ["self"] (defScope s_Dialect_told) := ⟨rfl, rfl, rfl, by decide +kernel, rfl, by decide +kernel, by decide +kernel⟩
theorem sc_dialect_of : FnScope ["told"] ["told"] (defScope s_dialect_of) := ⟨rfl, rfl, rfl, by decide +kernel, rfl, by decide +kernel, by decide +kernel⟩
theorem sc_makes_dialect : FnScope ["told"] ["told"] (defScope s_makes_dialect) := ⟨rfl, rfl, rfl, by decide +kernel, rfl, by decide +kernel, by decide +kernel⟩
theorem sc_is_name : FnScope ["thing"] ["thing"] (defScope s_is_name) := ⟨rfl, rfl, rfl, by decide +kernel, rfl, by decide +kernel, by decide +kernel⟩
theorem sc_signs_of_word : FnScope ["word", "signs", "number", "found"] ["word"] (defScope s_signs_of_word) := ⟨rfl, rfl, rfl, by decide +kernel, rfl, by decide +kernel, by decide +kernel⟩
theorem sc_truths_of_word : FnScope ["word"] ["word"] (defScope s_truths_of_word) := ⟨rfl, rfl, rfl, by decide +kernel, rfl, by decide +kernel, by decide +kernel⟩
theorem sc_dialect_in : FnScope ["row", "words", "told"] ["row"] (defScope s_dialect_in) := ⟨rfl, rfl, rfl, by decide +kernel, rfl, by decide +kernel, by decide +kernel⟩
theorem sc__law_cell_at : FnScope ["_law_script", "_law_k"] ["_law_script", "_law_k"] (defScope s__law_cell_at) := ⟨rfl, rfl, rfl, by decide +kernel, rfl, by decide +kernel, by decide +kernel⟩
theorem sc__law_mixed : FnScope ["_law_number_here", "_law_salt", "_law_one", "_law_two"] ["_law_number_here", "_law_salt"] (defScope s__law_mixed) := ⟨rfl, rfl, rfl, by decide +kernel, rfl, by decide +kernel, by decide +kernel⟩
theorem sc__law_number : FnScope ["_law_cell", "_law_salt", "_law_number_here", "_law_high"] ["_law_cell", "_law_salt"] (defScope s__law_number) := ⟨rfl, rfl, rfl, by decide +kernel, rfl, by decide +kernel, by decide +kernel⟩
theorem sc__law_some : FnScope ["_law_number_here", "_law_many", "_law_menu", "_law_found", "_law_k", "_law_sign"] ["_law_number_here", "_law_many", "_law_menu"] (defScope s__law_some) := ⟨rfl, rfl, rfl, by decide +kernel, rfl, by decide +kernel, by decide +kernel⟩
theorem sc__law_menus : FnScope ["_law_way", "_law_every"] ["_law_way"] (defScope s__law_menus) := ⟨rfl, rfl, rfl, by decide +kernel, rfl, by decide +kernel, by decide +kernel⟩
theorem sc__law_told : FnScope ["_law_cell", "_law_number_here", "_law_flags", "_law_sizes", "_law_menus_here", "_law_parts", "_law_quotes", "_law_frees", "_law_truths"] ["_law_cell"] (defScope s__law_told) := ⟨rfl, rfl, rfl, by decide +kernel, rfl, by decide +kernel, by decide +kernel⟩
theorem sc__law_title : FnScope ["_law_cell", "_law_number_here", "_law_size", "_law_name", "_law_k"] ["_law_cell"] (defScope s__law_title) := ⟨rfl, rfl, rfl, by decide +kernel, rfl, by decide +kernel, by decide +kernel⟩
theorem sc__law_row : FnScope ["_law_name", "_law_told_here", "_law_every", "_law_words", "_law_some_here", "_law_numbers", "_law_sign", "_law_at"] ["_law_name", "_law_told_here"] (defScope s__law_row) := ⟨rfl, rfl, rfl, by decide +kernel, rfl, by decide +kernel, by decide +kernel⟩
theorem sc__law_spoilt : FnScope ["_law_words", "_law_cell", "_law_number_here", "_law_way", "_law_at", "_law_odd"] ["_law_words", "_law_cell"] (defScope s__law_spoilt) := ⟨rfl, rfl, rfl, by decide +kernel, rfl, by decide +kernel, by decide +kernel⟩
theorem sc__law_signs : FnScope ["_law_word", "_law_least", "_law_most", "_law_every", "_law_some_here", "_law_part", "_law_signs_here"] ["_law_word", "_law_least", "_law_most"] (defScope s__law_signs) := ⟨rfl, rfl, rfl, by decide +kernel, rfl, by decide +kernel, by decide +kernel⟩
theorem sc__law_read : FnScope ["_law_row_here", "_law_words", "_law_some_here"] ["_law_row_here"] (defScope s__law_read) := ⟨rfl, rfl, rfl, by decide +kernel, rfl, by decide +kernel, by decide +kernel⟩
theorem sc__law_asked : FnScope ["_law_row_here", "_law_pair", "e"] ["_law_row_here"] (defScope s__law_asked) := ⟨rfl, rfl, rfl, by decide +kernel, rfl, by decide +kernel, by decide +kernel⟩
theorem sc_law : FnScope ["_law_script", "_law_told_here", "_law_words", "_law_cell", "_law_row_here", "_law_due", "_law_turn", "_law_thing"] ["_law_script"] (defScope s_law) := ⟨rfl, rfl, rfl, by decide +kernel, rfl, by decide +kernel, by decide +kernel⟩
structure Txt (K : PySem.W.Frag) (mg : Str → Option Value) (f_NoName___init__ f_TooMany___init__ f_Broken___init__ f_is_printable f_are_unlike_signs f_Dialect___init__ f_Dialect_told f_dialect_of f_makes_dialect f_is_name f_signs_of_word f_truths_of_word f_dialect_in f__law_cell_at f__law_mixed f__law_number f__law_some f__law_menus f__law_told f__law_title f__law_row f__law_spoilt f__law_signs f__law_read f__law_asked f_law C_Dialect C_DialectError N_DialectError C_NoText N_NoText C_NoTable N_NoTable C_NoDialect N_NoDialect C_NoRow N_NoRow C_NoName N_NoName C_TooMany N_TooMany C_Broken N_Broken : Addr) (fd_NoName___init__ fd_TooMany___init__ fd_Broken___init__ fd_is_printable fd_are_unlike_signs fd_Dialect___init__ fd_Dialect_told fd_dialect_of fd_makes_dialect fd_is_name fd_signs_of_word fd_truths_of_word fd_dialect_in fd__law_cell_at fd__law_mixed fd__law_number fd__law_some fd__law_menus fd__law_told fd__law_title fd__law_row fd__law_spoilt fd__law_signs fd__law_read fd__law_asked fd_law : FuncData) (z_SMALL_LETTERS z_PRINTABLE : Str) (dt_Dialect___init__ : Addr) : Prop where
  F_NoName___init__ : Fun K "__init__" "NoName.__init__" s_NoName___init__ f_NoName___init__ fd_NoName___init__
  b_NoName___init__ : Binds K fd_NoName___init__ ["self", "name"] []
  F_TooMany___init__ : Fun K "__init__" "TooMany.__init__" s_TooMany___init__ f_TooMany___init__ fd_TooMany___init__
  b_TooMany___init__ : Binds K fd_TooMany___init__ ["self", "most"] []
  F_Broken___init__ : Fun K "__init__" "Broken.__init__" s_Broken___init__ f_Broken___init__ fd_Broken___init__
  b_Broken___init__ : Binds K fd_Broken___init__ ["self", "row", "place", "word"] []
  F_is_printable : Fun K "is_printable" "is_printable" s_is_printable f_is_printable fd_is_printable
  b_is_printable : Binds K fd_is_printable ["sign"] []
  g_is_printable : mg "is_printable" = some (.ref f_is_printable)
  F_are_unlike_signs : Fun K "are_unlike_signs" "are_unlike_signs" s_are_unlike_signs f_are_unlike_signs fd_are_unlike_signs
  b_are_unlike_signs : Binds K fd_are_unlike_signs ["thing", "least", "most"] []
  g_are_unlike_signs : mg "are_unlike_signs" = some (.ref f_are_unlike_signs)
  F_Dialect___init__ : FunD K "__init__" "Dialect.__init__" s_Dialect___init__ f_Dialect___init__ fd_Dialect___init__ (.ref dt_Dialect___init__)
  b_Dialect___init__ : Binds K fd_Dialect___init__ ["self", "parts", "quotes", "frees", "twin", "wide", "thin", "stray"] []
  F_Dialect_told : Fun K "told" "Dialect.told" s_Dialect_told f_Dialect_told fd_Dialect_told
  b_Dialect_told : Binds K fd_Dialect_told ["self"] []
  m_Dialect_told : Meth K C_Dialect "told" f_Dialect_told
  F_dialect_of : Fun K "dialect_of" "dialect_of" s_dialect_of f_dialect_of fd_dialect_of
  b_dialect_of : Binds K fd_dialect_of ["told"] []
  g_dialect_of : mg "dialect_of" = some (.ref f_dialect_of)
  F_makes_dialect : Fun K "makes_dialect" "makes_dialect" s_makes_dialect f_makes_dialect fd_makes_dialect
  b_makes_dialect : Binds K fd_makes_dialect ["told"] []
  g_makes_dialect : mg "makes_dialect" = some (.ref f_makes_dialect)
  F_is_name : Fun K "is_name" "is_name" s_is_name f_is_name fd_is_name
  b_is_name : Binds K fd_is_name ["thing"] []
  g_is_name : mg "is_name" = some (.ref f_is_name)
  F_signs_of_word : Fun K "signs_of_word" "signs_of_word" s_signs_of_word f_signs_of_word fd_signs_of_word
  b_signs_of_word : Binds K fd_signs_of_word ["word"] []
  g_signs_of_word : mg "signs_of_word" = some (.ref f_signs_of_word)
  F_truths_of_word : Fun K "truths_of_word" "truths_of_word" s_truths_of_word f_truths_of_word fd_truths_of_word
  b_truths_of_word : Binds K fd_truths_of_word ["word"] []
  g_truths_of_word : mg "truths_of_word" = some (.ref f_truths_of_word)
  F_dialect_in : Fun K "dialect_in" "dialect_in" s_dialect_in f_dialect_in fd_dialect_in
  b_dialect_in : Binds K fd_dialect_in ["row"] []
  g_dialect_in : mg "dialect_in" = some (.ref f_dialect_in)
  F__law_cell_at : Fun K "_law_cell_at" "_law_cell_at" s__law_cell_at f__law_cell_at fd__law_cell_at
  b__law_cell_at : Binds K fd__law_cell_at ["_law_script", "_law_k"] []
  g__law_cell_at : mg "_law_cell_at" = some (.ref f__law_cell_at)
  F__law_mixed : Fun K "_law_mixed" "_law_mixed" s__law_mixed f__law_mixed fd__law_mixed
  b__law_mixed : Binds K fd__law_mixed ["_law_number_here", "_law_salt"] []
  g__law_mixed : mg "_law_mixed" = some (.ref f__law_mixed)
  F__law_number : Fun K "_law_number" "_law_number" s__law_number f__law_number fd__law_number
  b__law_number : Binds K fd__law_number ["_law_cell", "_law_salt"] []
  g__law_number : mg "_law_number" = some (.ref f__law_number)
  F__law_some : Fun K "_law_some" "_law_some" s__law_some f__law_some fd__law_some
  b__law_some : Binds K fd__law_some ["_law_number_here", "_law_many", "_law_menu"] []
  g__law_some : mg "_law_some" = some (.ref f__law_some)
  F__law_menus : Fun K "_law_menus" "_law_menus" s__law_menus f__law_menus fd__law_menus
  b__law_menus : Binds K fd__law_menus ["_law_way"] []
  g__law_menus : mg "_law_menus" = some (.ref f__law_menus)
  F__law_told : Fun K "_law_told" "_law_told" s__law_told f__law_told fd__law_told
  b__law_told : Binds K fd__law_told ["_law_cell"] []
  g__law_told : mg "_law_told" = some (.ref f__law_told)
  F__law_title : Fun K "_law_title" "_law_title" s__law_title f__law_title fd__law_title
  b__law_title : Binds K fd__law_title ["_law_cell"] []
  g__law_title : mg "_law_title" = some (.ref f__law_title)
  F__law_row : Fun K "_law_row" "_law_row" s__law_row f__law_row fd__law_row
  b__law_row : Binds K fd__law_row ["_law_name", "_law_told_here"] []
  g__law_row : mg "_law_row" = some (.ref f__law_row)
  F__law_spoilt : Fun K "_law_spoilt" "_law_spoilt" s__law_spoilt f__law_spoilt fd__law_spoilt
  b__law_spoilt : Binds K fd__law_spoilt ["_law_words", "_law_cell"] []
  g__law_spoilt : mg "_law_spoilt" = some (.ref f__law_spoilt)
  F__law_signs : Fun K "_law_signs" "_law_signs" s__law_signs f__law_signs fd__law_signs
  b__law_signs : Binds K fd__law_signs ["_law_word", "_law_least", "_law_most"] []
  g__law_signs : mg "_law_signs" = some (.ref f__law_signs)
  F__law_read : Fun K "_law_read" "_law_read" s__law_read f__law_read fd__law_read
  b__law_read : Binds K fd__law_read ["_law_row_here"] []
  g__law_read : mg "_law_read" = some (.ref f__law_read)
  F__law_asked : Fun K "_law_asked" "_law_asked" s__law_asked f__law_asked fd__law_asked
  b__law_asked : Binds K fd__law_asked ["_law_row_here"] []
  g__law_asked : mg "_law_asked" = some (.ref f__law_asked)
  F_law : Fun K "law" "law" s_law f_law fd_law
  b_law : Binds K fd_law ["_law_script"] []
  g_law : mg "law" = some (.ref f_law)
  cl_Dialect : Cls K C_Dialect
  g_Dialect : mg "Dialect" = some (.ref C_Dialect)
  M_Dialect : Mk K C_Dialect f_Dialect___init__
  n_Dialect_parts : NoAttr K C_Dialect "parts"
  n_Dialect_quotes : NoAttr K C_Dialect "quotes"
  n_Dialect_frees : NoAttr K C_Dialect "frees"
  n_Dialect_twin : NoAttr K C_Dialect "twin"
  n_Dialect_wide : NoAttr K C_Dialect "wide"
  n_Dialect_thin : NoAttr K C_Dialect "thin"
  n_Dialect_stray : NoAttr K C_Dialect "stray"
  g_DialectError : mg "DialectError" = some (.ref C_DialectError)
  x_DialectError : XCl K C_DialectError N_DialectError bmVE none
  xi_DialectError : XIn K C_DialectError
  g_NoText : mg "NoText" = some (.ref C_NoText)
  x_NoText : XCl K C_NoText N_NoText (.ref C_DialectError :: bmVE) none
  g_NoTable : mg "NoTable" = some (.ref C_NoTable)
  x_NoTable : XCl K C_NoTable N_NoTable (.ref C_DialectError :: bmVE) none
  g_NoDialect : mg "NoDialect" = some (.ref C_NoDialect)
  x_NoDialect : XCl K C_NoDialect N_NoDialect (.ref C_DialectError :: bmVE) none
  g_NoRow : mg "NoRow" = some (.ref C_NoRow)
  x_NoRow : XCl K C_NoRow N_NoRow (.ref C_DialectError :: bmVE) none
  g_NoName : mg "NoName" = some (.ref C_NoName)
  x_NoName : XCl K C_NoName N_NoName (.ref C_DialectError :: bmVE) (some (.ref f_NoName___init__))
  kpx_NoName : PySem.W.keepIn K (.ref C_NoName) = true
  lf_NoName : ∃ oI : Obj, K.lookup f_NoName___init__ = some oI ∧ oI.cls = .type "function"
  xa_NoName_name : XAt K C_NoName "name"
  g_TooMany : mg "TooMany" = some (.ref C_TooMany)
  x_TooMany : XCl K C_TooMany N_TooMany (.ref C_DialectError :: bmVE) (some (.ref f_TooMany___init__))
  kpx_TooMany : PySem.W.keepIn K (.ref C_TooMany) = true
  lf_TooMany : ∃ oI : Obj, K.lookup f_TooMany___init__ = some oI ∧ oI.cls = .type "function"
  xa_TooMany_most : XAt K C_TooMany "most"
  g_Broken : mg "Broken" = some (.ref C_Broken)
  x_Broken : XCl K C_Broken N_Broken (.ref C_DialectError :: bmVE) (some (.ref f_Broken___init__))
  kpx_Broken : PySem.W.keepIn K (.ref C_Broken) = true
  lf_Broken : ∃ oI : Obj, K.lookup f_Broken___init__ = some oI ∧ oI.cls = .type "function"
  xa_Broken_row : XAt K C_Broken "row"
  xa_Broken_place : XAt K C_Broken "place"
  xa_Broken_word : XAt K C_Broken "word"
  xk_NoRow : XKl K C_NoRow
  kpx_NoRow : PySem.W.keepIn K (.ref C_NoRow) = true
  kv_NoRow : PySem.W.kitOne K (.ref C_NoRow) (.type "ValueError") = some true
  ki_NoRow_DialectError : PySem.W.kitOne K (.ref C_NoRow) (.ref C_DialectError) = some true
  ki_NoRow_NoText : PySem.W.kitOne K (.ref C_NoRow) (.ref C_NoText) = some false
  ki_NoRow_NoTable : PySem.W.kitOne K (.ref C_NoRow) (.ref C_NoTable) = some false
  ki_NoRow_NoDialect : PySem.W.kitOne K (.ref C_NoRow) (.ref C_NoDialect) = some false
  ki_NoRow_NoRow : PySem.W.kitOne K (.ref C_NoRow) (.ref C_NoRow) = some true
  ki_NoRow_NoName : PySem.W.kitOne K (.ref C_NoRow) (.ref C_NoName) = some false
  ki_NoRow_TooMany : PySem.W.kitOne K (.ref C_NoRow) (.ref C_TooMany) = some false
  ki_NoRow_Broken : PySem.W.kitOne K (.ref C_NoRow) (.ref C_Broken) = some false
  ic_Dialect : (PySem.W.findIn K (.ref C_Dialect) "__class__" = some (some (.builtin "object.__class__"))) ∧ (PySem.W.specialIn K (.builtin "object.__class__") "__get__" = some (some (.builtin "getset_descriptor.__get__"))) ∧ (PySem.W.takesIn K (.builtin "object.__class__") = some true) ∧ (PySem.W.mroIn K C_Dialect (.type "object") = some true) ∧ PySem.W.kitOne K (.ref C_Dialect) (.ref C_Dialect) = some true
  no_ValueError : mg "ValueError" = none
  no_all : mg "all" = none
  no_bool : mg "bool" = none
  no_int : mg "int" = none
  no_isinstance : mg "isinstance" = none
  no_len : mg "len" = none
  no_ord : mg "ord" = none
  no_range : mg "range" = none
  no_str : mg "str" = none
  no_tuple : mg "tuple" = none
  gl_SMALL_LETTERS : ∃ t, mg "SMALL_LETTERS" = some (.str z_SMALL_LETTERS t)
  zl_SMALL_LETTERS : z_SMALL_LETTERS = Str.ofString "abcdefghijklmnopqrstuvwxyz"
  gl_PRINTABLE : ∃ t, mg "PRINTABLE" = some (.str z_PRINTABLE t)
  zl_PRINTABLE : z_PRINTABLE = Str.ofString " !\"#$&'()*+,-./0123456789:;<=>?@ABCDEFGHIJKLMNOPQRSTUVWXYZ[\\]^_`abcdefghijklmnopqrstuvwxyz{|}~"
  gl_MOST_LETTERS : ∃ t, mg "MOST_LETTERS" = some (.int 8 t)
section
variable {P : Program} {w : World} {K : PySem.W.Frag} {mg : Str → Option Value} {base : Heap} {f_NoName___init__ f_TooMany___init__ f_Broken___init__ f_is_printable f_are_unlike_signs f_Dialect___init__ f_Dialect_told f_dialect_of f_makes_dialect f_is_name f_signs_of_word f_truths_of_word f_dialect_in f__law_cell_at f__law_mixed f__law_number f__law_some f__law_menus f__law_told f__law_title f__law_row f__law_spoilt f__law_signs f__law_read f__law_asked f_law C_Dialect C_DialectError N_DialectError C_NoText N_NoText C_NoTable N_NoTable C_NoDialect N_NoDialect C_NoRow N_NoRow C_NoName N_NoName C_TooMany N_TooMany C_Broken N_Broken : Addr} {fd_NoName___init__ fd_TooMany___init__ fd_Broken___init__ fd_is_printable fd_are_unlike_signs fd_Dialect___init__ fd_Dialect_told fd_dialect_of fd_makes_dialect fd_is_name fd_signs_of_word fd_truths_of_word fd_dialect_in fd__law_cell_at fd__law_mixed fd__law_number fd__law_some fd__law_menus fd__law_told fd__law_title fd__law_row fd__law_spoilt fd__law_signs fd__law_read fd__law_asked fd_law : FuncData} {z_SMALL_LETTERS z_PRINTABLE : Str} {dt_Dialect___init__ : Addr}
def sp_is_printable : Sp := fun vs H Q _ => ∃ c : Nat, vs = [.str (sg c)] ∧ Q (.bl (decide (Pn c))) H
theorem ok_is_printable (T : Txt K mg f_NoName___init__ f_TooMany___init__ f_Broken___init__ f_is_printable f_are_unlike_signs f_Dialect___init__ f_Dialect_told f_dialect_of f_makes_dialect f_is_name f_signs_of_word f_truths_of_word f_dialect_in f__law_cell_at f__law_mixed f__law_number f__law_some f__law_menus f__law_told f__law_title f__law_row f__law_spoilt f__law_signs f__law_read f__law_asked f_law C_Dialect C_DialectError N_DialectError C_NoText N_NoText C_NoTable N_NoTable C_NoDialect N_NoDialect C_NoRow N_NoRow C_NoName N_NoName C_TooMany N_TooMany C_Broken N_Broken fd_NoName___init__ fd_TooMany___init__ fd_Broken___init__ fd_is_printable fd_are_unlike_signs fd_Dialect___init__ fd_Dialect_told fd_dialect_of fd_makes_dialect fd_is_name fd_signs_of_word fd_truths_of_word fd_dialect_in fd__law_cell_at fd__law_mixed fd__law_number fd__law_some fd__law_menus fd__law_told fd__law_title fd__law_row fd__law_spoilt fd__law_signs fd__law_read fd__law_asked fd_law z_SMALL_LETTERS z_PRINTABLE dt_Dialect___init__) : FnOk P w K mg base CX0 1 f_is_printable fd_is_printable ["sign"] sp_is_printable := by
  refine T.F_is_printable.ok sc_is_printable (fun vs H Q E h => ?_) (fun cdv A outer s H vs Q E hr h => ?_)
  · obtain ⟨c, rfl, _⟩ := h; rfl
  · have hu := hu_of hr
    have hu0 := hr.units0
    obtain ⟨c, rfl, k⟩ := h
    refine ⟨_, (pss_cons (ps_set (i := 1) sc_is_printable.nd rfl (by first | exact Or.inl rfl | exact Or.inr rfl) (pe_callB call_ord rfl T.no_ord (by decide +kernel) (pa_cons (pv 0) pa_nil st_Name)) (hs := sw_Call))
      (pss_one (ps_ret (pe_and (pe_cmpR op_ge (pv 1) pe_int (nomark _)) (pe_and (pe_cmpR op_le (pv 1) pe_int (nomark _)) (pe_one (pe_cmpR op_ne (pv 1) pe_int (nomark _)))))))), ?_⟩
    refine ⟨_, rfl, _, rfl, rfl, ?_⟩
    refine ⟨_, rfl, _, _, rfl, rfl, _, rfl, ite2 (fun h1 => ?_) (fun h1 => ?_)⟩
    · have h1 : (32 : Int) ≤ ((c : Nat) : Int) := of_decide_eq_true h1
      refine ⟨_, rfl, _, _, rfl, rfl, _, rfl, ite2 (fun h2 => ?_) (fun h2 => ?_)⟩
      · have h2 : ((c : Nat) : Int) ≤ 126 := of_decide_eq_true h2
        refine ⟨_, rfl, rfl, ?_⟩
        have e : (!decide (V.int ((c : Nat) : Int) = V.int 37)) = decide (Pn c) := by
          by_cases h3 : c = 37
          · subst h3; decide
          · have n1 : ¬ (V.int ((c : Nat) : Int) = V.int 37) := fun z => h3 (by injection z with z; omega)
            rw [decide_eq_false n1, decide_eq_true (show Pn c from ⟨by omega, by omega, h3⟩)]; rfl
        show Q (.bl (!decide (V.int ((c : Nat) : Int) = V.int 37))) H
        rw [e]; exact k
      · have e : decide (((c : Nat) : Int) ≤ 126) = decide (Pn c) := by
          have n1 : ¬ ((c : Nat) : Int) ≤ 126 := fun z => h2 (decide_eq_true z)
          rw [decide_eq_false n1, decide_eq_false (fun z : Pn c => n1 (by have := z.2.1; omega))]
        rw [← e, show decide (((c : Nat) : Int) ≤ 126) = false from Bool.eq_false_iff.mpr h2] at k
        exact k
    · have e : decide ((32 : Int) ≤ ((c : Nat) : Int)) = decide (Pn c) := by
        have n1 : ¬ (32 : Int) ≤ ((c : Nat) : Int) := fun z => h1 (decide_eq_true z)
        rw [decide_eq_false n1, decide_eq_false (fun z : Pn c => n1 (by have := z.1; omega))]
      rw [← e, show decide ((32 : Int) ≤ ((c : Nat) : Int)) = false from Bool.eq_false_iff.mpr h1] at k
      exact k
def sp_are_unlike_signs (K : PySem.W.Frag) : Sp := fun vs H Q _ => ∃ (v : V) (lo hi : Nat), vs = [v, .int lo, .int hi] ∧ K1 K H v ∧ hi ≤ 100 ∧ ∀ H', Same H H' → Q (.bl (sgB v lo hi)) H'
theorem ok_are_unlike_signs (T : Txt K mg f_NoName___init__ f_TooMany___init__ f_Broken___init__ f_is_printable f_are_unlike_signs f_Dialect___init__ f_Dialect_told f_dialect_of f_makes_dialect f_is_name f_signs_of_word f_truths_of_word f_dialect_in f__law_cell_at f__law_mixed f__law_number f__law_some f__law_menus f__law_told f__law_title f__law_row f__law_spoilt f__law_signs f__law_read f__law_asked f_law C_Dialect C_DialectError N_DialectError C_NoText N_NoText C_NoTable N_NoTable C_NoDialect N_NoDialect C_NoRow N_NoRow C_NoName N_NoName C_TooMany N_TooMany C_Broken N_Broken fd_NoName___init__ fd_TooMany___init__ fd_Broken___init__ fd_is_printable fd_are_unlike_signs fd_Dialect___init__ fd_Dialect_told fd_dialect_of fd_makes_dialect fd_is_name fd_signs_of_word fd_truths_of_word fd_dialect_in fd__law_cell_at fd__law_mixed fd__law_number fd__law_some fd__law_menus fd__law_told fd__law_title fd__law_row fd__law_spoilt fd__law_signs fd__law_read fd__law_asked fd_law z_SMALL_LETTERS z_PRINTABLE dt_Dialect___init__) : FnOk P w K mg base CX0 2 f_are_unlike_signs fd_are_unlike_signs ["thing", "least", "most"] (sp_are_unlike_signs K) := by
  have G_is_printable : FnOk P w K mg base CX0 1 f_is_printable fd_is_printable ["sign"] sp_is_printable := ok_is_printable T
  refine T.F_are_unlike_signs.ok sc_are_unlike_signs (fun vs H Q E h => ?_) (fun cdv A outer s H vs Q E hr h => ?_)
  · obtain ⟨v, lo, hi, rfl, _⟩ := h; rfl
  · have hu := hu_of hr
    have hu0 := hr.units0
    obtain ⟨v, lo, hi, rfl, hk, hh, k⟩ := h
    refine ⟨_, (pss_cons (ps_if (PW.pt (pw_or (pt_not (pt_val (pe_callB (callK_isinst K rfl) rfl T.no_isinstance (by decide +kernel) (pa_cons (pv 0) (pa_cons (pe_bty "str" rfl T.no_str (by decide +kernel)) pa_nil st_Name) st_Name)))) (pw_or (pt_cmpR op_lt (pe_callB call_len_str rfl T.no_len (by decide +kernel) (pa_cons (pv 0) pa_nil st_Name)) (pv 1) (nomark _)) (pw_or1 (pt_cmpR op_gt (pe_callB call_len_str rfl T.no_len (by decide +kernel) (pa_cons (pv 0) pa_nil st_Name)) (pv 2) (nomark _)))))) (pss_one (ps_ret pe_bl)) pss_nil)
      (pss_one (ps_ret (pe_callB (callK_all K rfl rfl) rfl T.no_all (by decide +kernel) (pa_cons (pe_comp rfl (show CompScope ["thing", "least", "most"] (defScope s_are_unlike_signs) ["sign", "thing"] 1 [0] _ from ⟨rfl, by decide +kernel, by decide +kernel, by decide +kernel, by decide +kernel, rfl, rfl, by decide +kernel⟩) (pi_str (pv 0)) (fun _ _ _ _ => (pg_name (i := 0) (show (["sign", "thing"] : List Str).Nodup by decide +kernel) rfl (by first | exact Or.inl rfl | exact Or.inr rfl))) (fun _ _ _ _ => pif_nil) (fun _ _ _ _ => (pe_and (pe_call (k := 1) G_is_printable (hr.mono (by decide)) rfl T.g_is_printable T.F_is_printable.kp T.b_is_printable .nil pass0 (pa_cons (pv 0) pa_nil st_Name)) (pe_one (pe_cmpR op_eq (peK_bm K rfl PySem.F.plainAttrs_str PySem.F.slot_str_count PySem.F.type_str_count mt_count (pv 1) (pa_cons (pv 0) pa_nil st_Name)) pe_int (nomark _)))))) pa_nil st_ListComp))))), ?_⟩
    rcases hk with ⟨z, rfl, hz⟩ | ⟨n, ty, hn⟩
    rotate_left
    · have kk := k H (Same.refl H)
      rw [ty_sgB ty hn] at kk
      exact ⟨_, rfl, _, _, _, false, rfl, ty, .inl ⟨_, rfl, kit_no hn⟩, false, rfl, iteT kk⟩
    have hzl : z.length ≤ sizeLine := Nat.le_trans hz (by decide)
    refine ⟨_, rfl, _, _, _, true, rfl, .str _, .inl ⟨_, rfl, rfl⟩, true, rfl, iteF ?_⟩
    have bad : ¬ (lo ≤ z.length ∧ z.length ≤ hi) → Q (.bl false) H := fun h => by
      have kk := k H (Same.refl H)
      rw [show sgB (.str z) lo hi = false from decide_eq_false fun q => h ⟨q.1, q.2.1⟩] at kk
      exact kk
    refine ⟨_, rfl, z, rfl, hzl, _, rfl, _, _, rfl, rfl, _, rfl, ite2 (fun h1 => ?_) (fun h1 => ?_)⟩
    · have h1 := of_decide_eq_true h1
      exact bad fun q => by omega
    have h1 : lo ≤ z.length := by
      rcases Nat.lt_or_ge z.length lo with q | q
      · exact absurd (decide_eq_true (show (z.length : Int) < (lo : Int) by omega)) h1
      · exact q
    refine ⟨_, rfl, z, rfl, hzl, _, rfl, _, _, rfl, rfl, _, rfl, ite2 (fun h2 => ?_) (fun h2 => ?_)⟩
    · have h2 := of_decide_eq_true h2
      exact bad fun q => by omega
    have h2 : z.length ≤ hi := by
      rcases Nat.lt_or_ge hi z.length with q | q
      · exact absurd (decide_eq_true (show (hi : Int) < (z.length : Int) by omega)) h2
      · exact q
    refine ⟨_, rfl, z, rfl, fun D hD => ?_⟩
    have hsz : z.cps.toList.length = z.length := by rw [Array.length_toList]; rfl
    refine comp_str (fun i ys τ H2 => (∃ v, τ = [v, some (.str z)]) ∧ Same H H2 ∧ H2 D = some (.lst ys) ∧ ys = ((z.cps.toList.take i).map (okU z)).map V.bl) ⟨⟨_, rfl⟩, same_new hD, upd_same, rfl⟩ (fun i ys τ H2 _ p => p.2.2.1) ?_ ?_
    · rintro i c ys τ H2 hi' ⟨⟨v, rfl⟩, s2, hl, rfl⟩
      have hil : i < z.cps.toList.length := (List.getElem?_eq_some_iff.mp hi').1
      have hlen : (((z.cps.toList.take i).map (okU z)).map V.bl).length < sizeLine := by
        rw [List.length_map, List.length_map, List.length_take]
        exact Nat.lt_of_le_of_lt (show min i z.cps.toList.length ≤ 2000 by omega) (by decide)
      have fin : ∀ b, b = okU z c → H2 D = some (.lst (((z.cps.toList.take i).map (okU z)).map V.bl)) ∧ (((z.cps.toList.take i).map (okU z)).map V.bl).length < sizeLine ∧ (∃ v, [some (V.str (sg c)), some (V.str z)] = [v, some (.str z)]) ∧ Same H (upd H2 D (.lst (((z.cps.toList.take i).map (okU z)).map V.bl ++ [.bl b]))) ∧ (upd H2 D (.lst (((z.cps.toList.take i).map (okU z)).map V.bl ++ [.bl b]))) D = some (.lst (((z.cps.toList.take i).map (okU z)).map V.bl ++ [.bl b])) ∧ ((z.cps.toList.take i).map (okU z)).map V.bl ++ [.bl b] = ((z.cps.toList.take (i + 1)).map (okU z)).map V.bl := fun b hb => by
        refine ⟨hl, hlen, ⟨_, rfl⟩, same_set hD s2, upd_same, ?_⟩
        rw [take_snocG hi', List.map_append, List.map_append, hb]; rfl
      refine gyes ?_
      refine ⟨_, rfl, c, rfl, _, rfl, ite2 (fun hp => ?_) (fun hp => fin false ?_)⟩
      · refine ⟨_, rfl, rfl, _, rfl, z, c, rfl, rfl, rfl, fin _ ?_⟩
        unfold okU
        rw [hp, Bool.true_and]
        by_cases hc : PyProof.Rows.cnt c z.cps.toList = 1
        · rw [decide_eq_true hc, hc]; exact decide_eq_true rfl
        · rw [decide_eq_false hc]; exact decide_eq_false fun e => hc (by injection e)
      · unfold okU; rw [no_of hp, Bool.false_and]
    · rintro ys τ H2 ⟨⟨v, rfl⟩, s2, hl, rfl⟩
      refine ⟨D, (z.cps.toList.take z.cps.toList.length).map (okU z), rfl, SqL.of hl, ?_⟩
      have e : ((z.cps.toList.take z.cps.toList.length).map (okU z)).all id = sgB (.str z) lo hi := by
        rw [List.take_of_length_le (Nat.le_refl _), List.all_map]; exact all_okU h1 h2
      rw [e]
      exact k H2 s2
def sp_Dialect___init__ (K : PySem.W.Frag) (C CN : Addr) : Sp := fun vs H Q E => ∃ (x dx : Addr) (v1 v2 v3 v4 v5 v6 v7 : V), vs = [.ref x, v1, v2, v3, v4, v5, v6, v7] ∧ H x = some (.ins C dx []) ∧ (∀ y ∈ [v1, v2, v3, v4, v5, v6, v7], K1 K H y) ∧ (∀ p q f b1 b2 b3 b4, [v1, v2, v3, v4, v5, v6, v7] = seven p q f b1 b2 b3 b4 → Gd p q f → ∀ H', H' x = some (.ins C dx (dfl p q f b1 b2 b3 b4)) → (∀ b o, H b = some o → b ≠ x → H' b = some o) → Q .non H') ∧ (¬ G7 [v1, v2, v3, v4, v5, v6, v7] → ∀ H', Same H H' → E (.ref CN) none H')
theorem ok_Dialect___init__ (T : Txt K mg f_NoName___init__ f_TooMany___init__ f_Broken___init__ f_is_printable f_are_unlike_signs f_Dialect___init__ f_Dialect_told f_dialect_of f_makes_dialect f_is_name f_signs_of_word f_truths_of_word f_dialect_in f__law_cell_at f__law_mixed f__law_number f__law_some f__law_menus f__law_told f__law_title f__law_row f__law_spoilt f__law_signs f__law_read f__law_asked f_law C_Dialect C_DialectError N_DialectError C_NoText N_NoText C_NoTable N_NoTable C_NoDialect N_NoDialect C_NoRow N_NoRow C_NoName N_NoName C_TooMany N_TooMany C_Broken N_Broken fd_NoName___init__ fd_TooMany___init__ fd_Broken___init__ fd_is_printable fd_are_unlike_signs fd_Dialect___init__ fd_Dialect_told fd_dialect_of fd_makes_dialect fd_is_name fd_signs_of_word fd_truths_of_word fd_dialect_in fd__law_cell_at fd__law_mixed fd__law_number fd__law_some fd__law_menus fd__law_told fd__law_title fd__law_row fd__law_spoilt fd__law_signs fd__law_read fd__law_asked fd_law z_SMALL_LETTERS z_PRINTABLE dt_Dialect___init__) : FnOk P w K mg base (CXe P w) 3 f_Dialect___init__ fd_Dialect___init__ ["self", "parts", "quotes", "frees", "twin", "wide", "thin", "stray"] (sp_Dialect___init__ K C_Dialect C_NoDialect) := by
  have G_are_unlike_signs : FnOk P w K mg base CX0 2 f_are_unlike_signs fd_are_unlike_signs ["thing", "least", "most"] (sp_are_unlike_signs K) := ok_are_unlike_signs T
  refine T.F_Dialect___init__.okE sc_Dialect___init__ (fun vs H Q E h => ?_) (fun cdv A outer s H vs Q E hr h => ?_)
  · obtain ⟨x, dx, v1, v2, v3, v4, v5, v6, v7, rfl, _⟩ := h; rfl
  · have hu := hu_of hr
    have hu0 := hr.units0
    obtain ⟨x, dx, v1, v2, v3, v4, v5, v6, v7, rfl, hx, hk, k, kE⟩ := h
    refine ⟨_, (pss_cons (ps_if (pt_not (pt_val (pe_call (k := 2) G_are_unlike_signs (hr.mono (by decide)) rfl T.g_are_unlike_signs T.F_are_unlike_signs.kp T.b_are_unlike_signs .nil pass0 (pa_cons (pv 1) (pa_cons pe_int (pa_cons pe_int pa_nil st_Constant) st_Constant) st_Name)))) (pss_one (ps_raise rfl T.x_NoDialect (.inr ⟨_, _, rfl, T.x_DialectError⟩) rfl T.g_NoDialect (pa_cons pe_str pa_nil st_Constant))) pss_nil)
      (pss_cons (ps_if (pt_not (pt_val (pe_call (k := 2) G_are_unlike_signs (hr.mono (by decide)) rfl T.g_are_unlike_signs T.F_are_unlike_signs.kp T.b_are_unlike_signs .nil pass0 (pa_cons (pv 2) (pa_cons pe_int (pa_cons pe_int pa_nil st_Constant) st_Constant) st_Name)))) (pss_one (ps_raise rfl T.x_NoDialect (.inr ⟨_, _, rfl, T.x_DialectError⟩) rfl T.g_NoDialect (pa_cons pe_str pa_nil st_Constant))) pss_nil)
      (pss_cons (ps_if (pt_not (pt_val (pe_call (k := 2) G_are_unlike_signs (hr.mono (by decide)) rfl T.g_are_unlike_signs T.F_are_unlike_signs.kp T.b_are_unlike_signs .nil pass0 (pa_cons (pv 3) (pa_cons pe_int (pa_cons pe_int pa_nil st_Constant) st_Constant) st_Name)))) (pss_one (ps_raise rfl T.x_NoDialect (.inr ⟨_, _, rfl, T.x_DialectError⟩) rfl T.g_NoDialect (pa_cons pe_str pa_nil st_Constant))) pss_nil)
      (pss_cons (ps_for PassesOwn.leaving rfl (piK_tup K rfl (pe_tup (pa_cons (pv 4) (pa_cons (pv 5) (pa_cons (pv 6) (pa_cons (pv 7) pa_nil st_Name) st_Name) st_Name) st_Name))) (pg_name (i := 8) sc_Dialect___init__.nd rfl (by first | exact Or.inl rfl | exact Or.inr rfl))
      (pss_one (ps_if (pt_not (pt_val (pe_callB (callK_isinst K rfl) rfl T.no_isinstance (by decide +kernel) (pa_cons (pv 8) (pa_cons (pe_bty "bool" rfl T.no_bool (by decide +kernel)) pa_nil st_Name) st_Name)))) (pss_one (ps_raise rfl T.x_NoDialect (.inr ⟨_, _, rfl, T.x_DialectError⟩) rfl T.g_NoDialect (pa_cons pe_str pa_nil st_Constant))) pss_nil)))
      (pss_cons (ps_fld (pv 0) (pv 1) rfl)
      (pss_cons (ps_fld (pv 0) (pv 2) rfl)
      (pss_cons (ps_fld (pv 0) (pv 3) rfl)
      (pss_cons (ps_fld (pv 0) (pv 4) rfl)
      (pss_cons (ps_fld (pv 0) (pv 5) rfl)
      (pss_cons (ps_fld (pv 0) (pv 6) rfl)
      (pss_one (ps_fld (pv 0) (pv 7) rfl)))))))))))), ?_⟩
    refine ⟨_, rfl, v1, 1, 3, rfl, hk _ (by simp), by decide, fun H1 s1 => ⟨_, rfl, ?_⟩⟩
    by_cases g1 : sgB v1 1 3 = true
    rotate_left
    · exact iteNf (no_of g1) ⟨by decide, kE (fun q => g1 (g7_parts q).1) _ s1⟩
    refine iteNE g1 ?_
    refine ⟨_, rfl, v2, 0, 2, rfl, (hk _ (by simp)).mono s1, by decide, fun H2 s2 => ⟨_, rfl, ?_⟩⟩
    have s12 := s1.trans s2
    by_cases g2 : sgB v2 0 2 = true
    rotate_left
    · exact iteNf (no_of g2) ⟨by decide, kE (fun q => g2 (g7_parts q).2.1) _ s12⟩
    refine iteNE g2 ?_
    refine ⟨_, rfl, v3, 0, 2, rfl, (hk _ (by simp)).mono s12, by decide, fun H3 s3 => ⟨_, rfl, ?_⟩⟩
    have s13 := s12.trans s3
    by_cases g3 : sgB v3 0 2 = true
    rotate_left
    · exact iteNf (no_of g3) ⟨by decide, kE (fun q => g3 (g7_parts q).2.2.1) _ s13⟩
    refine iteNE g3 ?_
    refine ⟨_, rfl, _, rfl, _, rfl, _, rfl, (by show 4 ≤ sizeLine; decide), fun t ht => ⟨t, rfl, ⟨_, SqT.of upd_same⟩, ?_⟩⟩
    have s03 : Same H (upd H3 t (.tup [v4, v5, v6, v7])) := s13.trans (same_new ht)
    have htt : (upd H3 t (.tup [v4, v5, v6, v7])) t = some (.tup [v4, v5, v6, v7]) := upd_same
    generalize upd H3 t (.tup [v4, v5, v6, v7]) = H4 at s03 htt ⊢
    refine for_tup (K := K) (a := t) (xs := [v4, v5, v6, v7]) (fun i σ H5 => H5 = H4 ∧ (∀ (j : Nat) y, j < i → [v4, v5, v6, v7][j]? = some y → isB y = true) ∧ ∃ v, σ = [some (.ref x), some v1, some v2, some v3, some v4, some v5, some v6, some v7, v]) ⟨rfl, (fun j y hj => absurd hj (Nat.not_lt_zero _)), _, rfl⟩ (fun i σ H5 _ q => by rw [q.1]; exact SqT.of htt) ?_ ?_
    · rintro i y σ H5 hi ⟨rfl, hb, v, rfl⟩
      have hym : y ∈ [v4, v5, v6, v7] := List.mem_of_getElem? hi
      have ky := (hk y (List.mem_cons_of_mem _ (List.mem_cons_of_mem _ (List.mem_cons_of_mem _ hym)))).mono s03
      have hno : isB y = false → ¬ G7 [v1, v2, v3, v4, v5, v6, v7] := fun h q => by
        have q := (g7_parts q).2.2.2
        simp only [List.mem_cons, List.not_mem_nil, or_false] at hym
        rcases hym with rfl | rfl | rfl | rfl
        · rw [q.1] at h; cases h
        · rw [q.2.1] at h; cases h
        · rw [q.2.2.1] at h; cases h
        · rw [q.2.2.2] at h; cases h
      rcases ky with ⟨z, rfl, hz⟩ | ⟨n, ty, hn⟩
      · exact ⟨_, rfl, _, _, _, false, rfl, .str _, .inl ⟨_, rfl, rfl⟩, false, rfl, iteT ⟨by decide, kE (hno rfl) _ s03⟩⟩
      have eb := ty_isB ty
      refine ⟨_, rfl, _, _, _, _, rfl, ty, .inl ⟨_, rfl, kit_bool hn⟩, _, rfl, ?_⟩
      rw [← eb]
      by_cases hB : isB y = true
      · refine iteNE hB ⟨rfl, fun j y' hj hy' => ?_, _, rfl⟩
        rcases Nat.lt_or_ge j i with h | h
        · exact hb j y' h hy'
        · obtain rfl : j = i := by omega
          rw [hi] at hy'
          obtain rfl := Option.some.inj hy'
          exact hB
      · exact iteNf (no_of hB) ⟨by decide, kE (hno (no_of hB)) _ s03⟩
    · rintro σ H5 ⟨rfl, hb, v, rfl⟩
      obtain ⟨p, rfl, gp, lp1, lp3⟩ := sg_true g1
      obtain ⟨q, rfl, gq, _, lq2⟩ := sg_true g2
      obtain ⟨f, rfl, gf, _, lf2⟩ := sg_true g3
      obtain ⟨b1, rfl⟩ := isB_ex (hb 0 v4 (by show 0 < 4; decide) rfl)
      obtain ⟨b2, rfl⟩ := isB_ex (hb 1 v5 (by show 1 < 4; decide) rfl)
      obtain ⟨b3, rfl⟩ := isB_ex (hb 2 v6 (by show 2 < 4; decide) rfl)
      obtain ⟨b4, rfl⟩ := isB_ex (hb 3 v7 (by show 3 < 4; decide) rfl)
      have hx5 := s03 _ _ hx
      refine ⟨_, rfl, _, rfl, x, C_Dialect, dx, _, rfl, hx5, T.cl_Dialect, T.n_Dialect_parts, (by show 0 < 1000; decide), _, rfl, _, rfl, x, C_Dialect, dx, _, rfl, upd_same, T.cl_Dialect, T.n_Dialect_quotes, (by show 1 < 1000; decide), _, rfl, _, rfl, x, C_Dialect, dx, _, rfl, upd_same, T.cl_Dialect, T.n_Dialect_frees, (by show 2 < 1000; decide), _, rfl, _, rfl, x, C_Dialect, dx, _, rfl, upd_same, T.cl_Dialect, T.n_Dialect_twin, (by show 3 < 1000; decide), _, rfl, _, rfl, x, C_Dialect, dx, _, rfl, upd_same, T.cl_Dialect, T.n_Dialect_wide, (by show 4 < 1000; decide), _, rfl, _, rfl, x, C_Dialect, dx, _, rfl, upd_same, T.cl_Dialect, T.n_Dialect_thin, (by show 5 < 1000; decide), _, rfl, _, rfl, x, C_Dialect, dx, _, rfl, upd_same, T.cl_Dialect, T.n_Dialect_stray, (by show 6 < 1000; decide), ?_⟩
      refine k p q f b1 b2 b3 b4 rfl ⟨gp, gq, gf, lp1, lp3, lq2, lf2⟩ _ upd_same fun b o e hb => ?_
      rw [upd_ne hb, upd_ne hb, upd_ne hb, upd_ne hb, upd_ne hb, upd_ne hb, upd_ne hb]
      exact s03 _ _ e
def sp_Dialect_told (C : Addr) : Sp := fun vs H Q _ => ∃ (x dx : Addr) (p q f : Str) (b1 b2 b3 b4 : Bool), vs = [.ref x] ∧ H x = some (.ins C dx (dfl p q f b1 b2 b3 b4)) ∧ ∀ t, H t = none → Q (.ref t) (upd H t (.tup (seven p q f b1 b2 b3 b4)))
theorem ok_Dialect_told (T : Txt K mg f_NoName___init__ f_TooMany___init__ f_Broken___init__ f_is_printable f_are_unlike_signs f_Dialect___init__ f_Dialect_told f_dialect_of f_makes_dialect f_is_name f_signs_of_word f_truths_of_word f_dialect_in f__law_cell_at f__law_mixed f__law_number f__law_some f__law_menus f__law_told f__law_title f__law_row f__law_spoilt f__law_signs f__law_read f__law_asked f_law C_Dialect C_DialectError N_DialectError C_NoText N_NoText C_NoTable N_NoTable C_NoDialect N_NoDialect C_NoRow N_NoRow C_NoName N_NoName C_TooMany N_TooMany C_Broken N_Broken fd_NoName___init__ fd_TooMany___init__ fd_Broken___init__ fd_is_printable fd_are_unlike_signs fd_Dialect___init__ fd_Dialect_told fd_dialect_of fd_makes_dialect fd_is_name fd_signs_of_word fd_truths_of_word fd_dialect_in fd__law_cell_at fd__law_mixed fd__law_number fd__law_some fd__law_menus fd__law_told fd__law_title fd__law_row fd__law_spoilt fd__law_signs fd__law_read fd__law_asked fd_law z_SMALL_LETTERS z_PRINTABLE dt_Dialect___init__) : FnOk P w K mg base CX0 1 f_Dialect_told fd_Dialect_told ["self"] (sp_Dialect_told C_Dialect) := by
  refine T.F_Dialect_told.ok sc_Dialect_told (fun vs H Q E h => ?_) (fun cdv A outer s H vs Q E hr h => ?_)
  · obtain ⟨x, dx, p, q, f, b1, b2, b3, b4, rfl, _⟩ := h; rfl
  · have hu := hu_of hr
    have hu0 := hr.units0
    obtain ⟨x, dx, p, q, f, b1, b2, b3, b4, rfl, hx, k⟩ := h
    refine ⟨_, (pss_one (ps_ret (pe_tup (pa_cons (peK_fld K rfl (pv 0) rfl) (pa_cons (peK_fld K rfl (pv 0) rfl) (pa_cons (peK_fld K rfl (pv 0) rfl) (pa_cons (peK_fld K rfl (pv 0) rfl) (pa_cons (peK_fld K rfl (pv 0) rfl) (pa_cons (peK_fld K rfl (pv 0) rfl) (pa_cons (peK_fld K rfl (pv 0) rfl) pa_nil st_Attribute) st_Attribute) st_Attribute) st_Attribute) st_Attribute) st_Attribute) st_Attribute)))), ?_⟩
    refine ⟨_, rfl, x, C_Dialect, dx, _, _, rfl, hx, T.cl_Dialect, T.n_Dialect_parts, rfl, _, rfl, x, C_Dialect, dx, _, _, rfl, hx, T.cl_Dialect, T.n_Dialect_quotes, rfl, _, rfl, x, C_Dialect, dx, _, _, rfl, hx, T.cl_Dialect, T.n_Dialect_frees, rfl, _, rfl, x, C_Dialect, dx, _, _, rfl, hx, T.cl_Dialect, T.n_Dialect_twin, rfl, _, rfl, x, C_Dialect, dx, _, _, rfl, hx, T.cl_Dialect, T.n_Dialect_wide, rfl, _, rfl, x, C_Dialect, dx, _, _, rfl, hx, T.cl_Dialect, T.n_Dialect_thin, rfl, _, rfl, x, C_Dialect, dx, _, _, rfl, hx, T.cl_Dialect, T.n_Dialect_stray, rfl, (by show 7 ≤ sizeLine; decide), fun t ht => ?_⟩
    exact k t ht
def sp_dialect_of (K : PySem.W.Frag) (C CN : Addr) : Sp := fun vs H Q E => ∃ (v : V), vs = [v] ∧ K1 K H v ∧ (∀ t ys, v = .ref t → H t = some (.tup ys) → ∀ y ∈ ys, K1 K H y) ∧ (∀ t p q f b1 b2 b3 b4, v = .ref t → H t = some (.tup (seven p q f b1 b2 b3 b4)) → Gd p q f → ∀ (x dx : Addr) (H' : Hp), H x = none → H' x = some (.ins C dx (dfl p q f b1 b2 b3 b4)) → Same H H' → Q (.ref x) H') ∧ ((∀ t xs, v = .ref t → H t = some (.tup xs) → ¬ G7 xs) → ∀ H', Same H H' → E (.ref CN) none H')
theorem ok_dialect_of (T : Txt K mg f_NoName___init__ f_TooMany___init__ f_Broken___init__ f_is_printable f_are_unlike_signs f_Dialect___init__ f_Dialect_told f_dialect_of f_makes_dialect f_is_name f_signs_of_word f_truths_of_word f_dialect_in f__law_cell_at f__law_mixed f__law_number f__law_some f__law_menus f__law_told f__law_title f__law_row f__law_spoilt f__law_signs f__law_read f__law_asked f_law C_Dialect C_DialectError N_DialectError C_NoText N_NoText C_NoTable N_NoTable C_NoDialect N_NoDialect C_NoRow N_NoRow C_NoName N_NoName C_TooMany N_TooMany C_Broken N_Broken fd_NoName___init__ fd_TooMany___init__ fd_Broken___init__ fd_is_printable fd_are_unlike_signs fd_Dialect___init__ fd_Dialect_told fd_dialect_of fd_makes_dialect fd_is_name fd_signs_of_word fd_truths_of_word fd_dialect_in fd__law_cell_at fd__law_mixed fd__law_number fd__law_some fd__law_menus fd__law_told fd__law_title fd__law_row fd__law_spoilt fd__law_signs fd__law_read fd__law_asked fd_law z_SMALL_LETTERS z_PRINTABLE dt_Dialect___init__) : FnOk P w K mg base (CXe P w) 5 f_dialect_of fd_dialect_of ["told"] (sp_dialect_of K C_Dialect C_NoDialect) := by
  have G_Dialect___init__ : FnOk P w K mg base (CXe P w) 3 f_Dialect___init__ fd_Dialect___init__ ["self", "parts", "quotes", "frees", "twin", "wide", "thin", "stray"] (sp_Dialect___init__ K C_Dialect C_NoDialect) := ok_Dialect___init__ T
  refine T.F_dialect_of.okE sc_dialect_of (fun vs H Q E h => ?_) (fun cdv A outer s H vs Q E hr h => ?_)
  · obtain ⟨v, rfl, _⟩ := h; rfl
  · have hu := hu_of hr
    have hu0 := hr.units0
    obtain ⟨v, rfl, hv, hk, k, kE⟩ := h
    refine ⟨_, (pss_cons (ps_if (PW.pt (pw_or (pt_not (pt_val (pe_callB (callK_isinst K rfl) rfl T.no_isinstance (by decide +kernel) (pa_cons (pv 0) (pa_cons (pe_bty "tuple" rfl T.no_tuple (by decide +kernel)) pa_nil st_Name) st_Name)))) (pw_or1 (pt_cmpR op_ne (pe_callB (callK_len_seq K rfl) rfl T.no_len (by decide +kernel) (pa_cons (pv 0) pa_nil st_Name)) pe_int (nomark _))))) (pss_one (ps_raise rfl T.x_NoDialect (.inr ⟨_, _, rfl, T.x_DialectError⟩) rfl T.g_NoDialect (pa_cons pe_str pa_nil st_Constant))) pss_nil)
      (pss_one (ps_ret (pe_make (k := 3) T.M_Dialect G_Dialect___init__ (hr.mono (by decide)) rfl T.g_Dialect T.b_Dialect___init__ .nil passE (pa_cons (pe_ix (ixK_tup K rfl) (pv 0) pe_int (fun _ _ => rfl)) (pa_cons (pe_ix (ixK_tup K rfl) (pv 0) pe_int (fun _ _ => rfl)) (pa_cons (pe_ix (ixK_tup K rfl) (pv 0) pe_int (fun _ _ => rfl)) (pa_cons (pe_ix (ixK_tup K rfl) (pv 0) pe_int (fun _ _ => rfl)) (pa_cons (pe_ix (ixK_tup K rfl) (pv 0) pe_int (fun _ _ => rfl)) (pa_cons (pe_ix (ixK_tup K rfl) (pv 0) pe_int (fun _ _ => rfl)) (pa_cons (pe_ix (ixK_tup K rfl) (pv 0) pe_int (fun _ _ => rfl)) pa_nil st_Subscript) st_Subscript) st_Subscript) st_Subscript) st_Subscript) st_Subscript) st_Subscript))))), ?_⟩
    rcases hv with ⟨z, rfl, hz⟩ | ⟨n, ty, hn⟩
    · exact ⟨_, rfl, _, _, _, false, rfl, .str _, .inl ⟨_, rfl, rfl⟩, false, rfl, iteT ⟨by decide, kE (fun t xs e => by cases e) _ (Same.refl H)⟩⟩
    refine ⟨_, rfl, _, _, _, _, rfl, ty, .inl ⟨_, rfl, kit_tup hn⟩, _, rfl, ?_⟩
    by_cases hT : n = "tuple"
    rotate_left
    · rw [decide_eq_false hT]
      refine iteT ⟨by decide, kE (fun t xs e1 e2 => ?_) _ (Same.refl H)⟩
      exfalso
      subst e1
      cases ty with
      | tup e => exact hT rfl
      | lst e => rw [e] at e2; cases e2
      | frz e => rw [e] at e2; cases e2
      | dK e => rw [e] at e2; cases e2
      | dT e => rw [e] at e2; cases e2
    obtain ⟨t, ys, rfl, ht⟩ := ty_tup ty hT
    subst hT
    have hS := SqT.of (K := K) ht
    have hk := hk t ys rfl ht
    refine iteNE (decide_eq_true rfl) ?_
    refine ⟨_, rfl, t, _, rfl, .inr hS, rfl, _, rfl, ?_⟩
    by_cases hl : ys.length = 7
    rotate_left
    · refine iteNf (decide_eq_false fun e => hl (by injection e with e; omega)) ⟨by decide, kE (fun t' xs e1 e2 => ?_) _ (Same.refl H)⟩
      cases e1; rw [ht] at e2; cases e2; exact fun q => hl (g7_len q)
    refine iteNE (decide_eq_true (by rw [hl]; rfl)) ?_
    obtain ⟨v1, v2, v3, v4, v5, v6, v7, rfl⟩ := seven_of hl
    
    refine ⟨_, rfl, t, _, _, _, rfl, rfl, hS, rfl, _, rfl, t, _, _, _, rfl, rfl, hS, rfl, _, rfl, t, _, _, _, rfl, rfl, hS, rfl, _, rfl, t, _, _, _, rfl, rfl, hS, rfl, _, rfl, t, _, _, _, rfl, rfl, hS, rfl, _, rfl, t, _, _, _, rfl, rfl, hS, rfl, _, rfl, t, _, _, _, rfl, rfl, hS, rfl, fun x dx hx hdx ne => ?_⟩
    have sm := same_ins (C := C_Dialect) hx hdx
    refine ⟨x, dx, v1, v2, v3, v4, v5, v6, v7, rfl, upd_same, fun y hy => (hk y hy).mono sm, fun p q f b1 b2 b3 b4 e g H2 h2 kp => ⟨rfl, k t p q f b1 b2 b3 b4 rfl (by rw [← e]; exact ht) g x dx H2 hx h2 fun b o eb => kp b o (sm _ _ eb) (ne_of_none eb hx)⟩, fun hn H2 s2 => kE ?_ _ (sm.trans s2)⟩
    
    exact fun t' xs e1 e2 => by cases e1; rw [ht] at e2; cases e2; exact hn
def sp_makes_dialect (K : PySem.W.Frag) : Sp := fun vs H Q _ => ∃ (t : Addr) (ys : List V), vs = [.ref t] ∧ H t = some (.tup ys) ∧ (∀ y ∈ ys, K1 K H y) ∧ ∀ H' b, (b = true ↔ G7 ys) → Same H H' → Q (.bl b) H'
theorem ok_makes_dialect (T : Txt K mg f_NoName___init__ f_TooMany___init__ f_Broken___init__ f_is_printable f_are_unlike_signs f_Dialect___init__ f_Dialect_told f_dialect_of f_makes_dialect f_is_name f_signs_of_word f_truths_of_word f_dialect_in f__law_cell_at f__law_mixed f__law_number f__law_some f__law_menus f__law_told f__law_title f__law_row f__law_spoilt f__law_signs f__law_read f__law_asked f_law C_Dialect C_DialectError N_DialectError C_NoText N_NoText C_NoTable N_NoTable C_NoDialect N_NoDialect C_NoRow N_NoRow C_NoName N_NoName C_TooMany N_TooMany C_Broken N_Broken fd_NoName___init__ fd_TooMany___init__ fd_Broken___init__ fd_is_printable fd_are_unlike_signs fd_Dialect___init__ fd_Dialect_told fd_dialect_of fd_makes_dialect fd_is_name fd_signs_of_word fd_truths_of_word fd_dialect_in fd__law_cell_at fd__law_mixed fd__law_number fd__law_some fd__law_menus fd__law_told fd__law_title fd__law_row fd__law_spoilt fd__law_signs fd__law_read fd__law_asked fd_law z_SMALL_LETTERS z_PRINTABLE dt_Dialect___init__) : FnOk P w K mg base CX0 6 f_makes_dialect fd_makes_dialect ["told"] (sp_makes_dialect K) := by
  have G_dialect_of : FnOk P w K mg base (CXe P w) 5 f_dialect_of fd_dialect_of ["told"] (sp_dialect_of K C_Dialect C_NoDialect) := ok_dialect_of T
  refine T.F_makes_dialect.ok sc_makes_dialect (fun vs H Q E h => ?_) (fun cdv A outer s H vs Q E hr h => ?_)
  · obtain ⟨t, ys, rfl, _⟩ := h; rfl
  · have hu := hu_of hr
    have hu0 := hr.units0
    obtain ⟨t, ys, rfl, ht, hk, k⟩ := h
    refine ⟨_, (pss_cons (ps_tryX rfl rfl (pssx_one (psx_expr (pex_call (k := 5) G_dialect_of (hr.mono (by decide)) rfl T.g_dialect_of T.F_dialect_of.kp T.b_dialect_of .nil (pa_cons (pv 0) pa_nil st_Name)))) (ph_no rfl rfl T.g_NoDialect T.x_NoDialect (.inr ⟨_, _, rfl, T.x_DialectError⟩) (fun ea => (pss_one (ps_ret pe_bl))) ph_nil) pss_nil)
      (pss_one (ps_ret pe_bl))), ?_⟩
    refine ⟨_, rfl, .ref t, rfl, K1.tup ht, (fun t' xs e1 e2 => by cases e1; rw [ht] at e2; cases e2; exact hk), fun t' p q f b1 b2 b3 b4 e1 e2 g x dx H1 hx hx1 s1 => ?_, fun hb H1 s1 ea hea => ?_⟩
    · cases e1
      rw [ht] at e2
      cases e2
      exact k _ true ⟨fun _ => ⟨_, _, _, _, _, _, _, rfl, g⟩, fun _ => rfl⟩ s1
    · refine ⟨C_NoDialect, N_NoDialect, _, _, rfl, T.x_NoDialect, iteBt (by simp) ?_⟩
      have hb := hb t ys rfl ht
      exact k _ false ⟨fun q => absurd q (by decide), fun q => absurd q hb⟩ (s1.trans (same_new hea))
def sp_is_name (K : PySem.W.Frag) : Sp := fun vs H Q _ => ∃ v : V, vs = [v] ∧ Knd H v ∧ (∀ z, v = .str z → z.length ≤ 10000) ∧ ∀ H', Same H H' → Q (.bl (isN v)) H'
theorem ok_is_name (T : Txt K mg f_NoName___init__ f_TooMany___init__ f_Broken___init__ f_is_printable f_are_unlike_signs f_Dialect___init__ f_Dialect_told f_dialect_of f_makes_dialect f_is_name f_signs_of_word f_truths_of_word f_dialect_in f__law_cell_at f__law_mixed f__law_number f__law_some f__law_menus f__law_told f__law_title f__law_row f__law_spoilt f__law_signs f__law_read f__law_asked f_law C_Dialect C_DialectError N_DialectError C_NoText N_NoText C_NoTable N_NoTable C_NoDialect N_NoDialect C_NoRow N_NoRow C_NoName N_NoName C_TooMany N_TooMany C_Broken N_Broken fd_NoName___init__ fd_TooMany___init__ fd_Broken___init__ fd_is_printable fd_are_unlike_signs fd_Dialect___init__ fd_Dialect_told fd_dialect_of fd_makes_dialect fd_is_name fd_signs_of_word fd_truths_of_word fd_dialect_in fd__law_cell_at fd__law_mixed fd__law_number fd__law_some fd__law_menus fd__law_told fd__law_title fd__law_row fd__law_spoilt fd__law_signs fd__law_read fd__law_asked fd_law z_SMALL_LETTERS z_PRINTABLE dt_Dialect___init__) : FnOk P w K mg base CX0 1 f_is_name fd_is_name ["thing"] (sp_is_name K) := by
  refine T.F_is_name.ok sc_is_name (fun vs H Q E h => ?_) (fun cdv A outer s H vs Q E hr h => ?_)
  · obtain ⟨v, rfl, _⟩ := h; rfl
  · have hu := hu_of hr
    have hu0 := hr.units0
    obtain ⟨v, rfl, hk, hb, k⟩ := h
    refine ⟨_, (pss_cons (ps_if (PW.pt (pw_or (pt_not (pt_val (pe_callB (callK_isinst K rfl) rfl T.no_isinstance (by decide +kernel) (pa_cons (pv 0) (pa_cons (pe_bty "str" rfl T.no_str (by decide +kernel)) pa_nil st_Name) st_Name)))) (pw_or (pt_cmpR op_lt (pe_callB call_len_str rfl T.no_len (by decide +kernel) (pa_cons (pv 0) pa_nil st_Name)) pe_int (nomark _)) (pw_or1 (pt_cmpR op_gt (pe_callB call_len_str rfl T.no_len (by decide +kernel) (pa_cons (pv 0) pa_nil st_Name)) (pe_gint rfl T.gl_MOST_LETTERS.choose_spec) (nomark _)))))) (pss_one (ps_ret pe_bl)) pss_nil)
      (pss_one (ps_ret (pe_callB (callK_all K rfl rfl) rfl T.no_all (by decide +kernel) (pa_cons (pe_comp rfl (show CompScope ["thing"] (defScope s_is_name) ["sign"] 1 [] _ from ⟨rfl, by decide +kernel, by decide +kernel, by decide +kernel, by decide +kernel, rfl, rfl, by decide +kernel⟩) (pi_str (pv 0)) (fun _ _ _ _ => (pg_name (i := 0) (show (["sign"] : List Str).Nodup by decide +kernel) rfl (by first | exact Or.inl rfl | exact Or.inr rfl))) (fun _ _ _ _ => pif_nil) (fun _ _ _ _ => (pe_cmpR op_in_str (pv 0) (pe_gstr rfl T.gl_SMALL_LETTERS.choose_spec) rfl))) pa_nil st_ListComp))))), ?_⟩
    cases hk with
    | str z =>
      have hb := hb z rfl
      have hbl : z.length ≤ sizeLine := Nat.le_trans hb (by decide)
      refine ⟨_, rfl, _, _, _, true, rfl, .str _, .inl ⟨_, rfl, rfl⟩, true, rfl, iteF ⟨_, rfl, z, rfl, hbl, _, _, rfl, rfl, _, rfl, ?_⟩⟩
      have no : ¬ (1 ≤ z.length ∧ z.length ≤ 8) → ∀ H', Same H H' → Q (.bl false) H' := fun h H' s => by
        have kk := k H' s
        have e : isN (.str z) = false := by show (decide _ && _) = false; rw [decide_eq_false h]; rfl
        rw [e] at kk; exact kk
      refine ite2 (fun h1 => ?_) (fun h1 => ?_)
      · have h1 : (z.length : Int) < 1 := of_decide_eq_true h1
        exact no (by omega) H (Same.refl H)
      have h1 : ¬ (z.length : Int) < 1 := fun q => h1 (decide_eq_true q)
      refine ⟨_, rfl, z, rfl, hbl, _, _, rfl, rfl, _, rfl, ite2 (fun h2 => ?_) (fun h2 => ?_)⟩
      · have h2 : (8 : Int) < z.length := of_decide_eq_true h2
        exact no (by omega) H (Same.refl H)
      have h2 : ¬ (8 : Int) < z.length := fun q => h2 (decide_eq_true q)
      have e : isN (.str z) = z.cps.toList.all smallc := by show (decide _ && _) = _; rw [decide_eq_true ⟨by omega, by omega⟩]; rfl
      rw [e] at k
      have hsz : z.cps.toList.length = z.length := by rw [Array.length_toList]; rfl
      refine ⟨_, rfl, z, rfl, fun D hD => ?_⟩
      refine comp_str (fun i ys τ H2 => (∃ v, τ = [v]) ∧ Same H H2 ∧ H2 D = some (.lst ys) ∧ ys = ((z.cps.toList.take i).map smallc).map V.bl) ⟨⟨_, rfl⟩, same_new hD, upd_same, rfl⟩ (fun i ys τ H2 _ p => p.2.2.1) ?_ ?_
      · rintro i c ys τ H2 hi ⟨⟨v, rfl⟩, s2, hl, rfl⟩
        have hil : i < z.cps.toList.length := (List.getElem?_eq_some_iff.mp hi).1
        refine gyes ?_
        refine ⟨_, rfl, _, _, rfl, rfl, ?_⟩
        rw [T.zl_SMALL_LETTERS]
        refine ⟨hl, ?_, ⟨_, rfl⟩, same_set hD s2, upd_same, ?_⟩
        · rw [List.length_map, List.length_map, List.length_take]
          exact Nat.lt_of_le_of_lt (show min i z.cps.toList.length ≤ 8 by omega) (by decide)
        · rw [take_snoc hi, List.map_append, List.map_append]
          have e2 := small_in c
          unfold away at e2
          rw [Bool.not_not] at e2
          rw [List.map_cons, List.map_nil, List.map_cons, List.map_nil, ← e2]
      · rintro ys τ H2 ⟨⟨v, rfl⟩, s2, hl, rfl⟩
        refine ⟨D, (z.cps.toList.take z.cps.toList.length).map smallc, rfl, SqL.of hl, ?_⟩
        have e : ((z.cps.toList.take z.cps.toList.length).map smallc).all id = z.cps.toList.all smallc := by
          rw [List.take_of_length_le (Nat.le_refl _), List.all_map]; rfl
        rw [e]
        exact k H2 s2
    | non => exact ⟨_, rfl, _, _, _, false, rfl, .non, .inl ⟨_, rfl, rfl⟩, false, rfl, iteT (k H (Same.refl H))⟩
    | bl b => exact ⟨_, rfl, _, _, _, false, rfl, .bl _, .inl ⟨_, rfl, rfl⟩, false, rfl, iteT (k H (Same.refl H))⟩
    | int n => exact ⟨_, rfl, _, _, _, false, rfl, .int _, .inl ⟨_, rfl, rfl⟩, false, rfl, iteT (k H (Same.refl H))⟩
    | lst e f => exact ⟨_, rfl, _, _, _, false, rfl, .lst e, .inl ⟨_, rfl, rfl⟩, false, rfl, iteT (k H (Same.refl H))⟩
    | tup e f => exact ⟨_, rfl, _, _, _, false, rfl, .tup e, .inl ⟨_, rfl, rfl⟩, false, rfl, iteT (k H (Same.refl H))⟩
    | dic e f => exact ⟨_, rfl, _, _, _, false, rfl, .dK e, .inl ⟨_, rfl, rfl⟩, false, rfl, iteT (k H (Same.refl H))⟩
def sp_signs_of_word (K : PySem.W.Frag) : Sp := fun vs H Q _ => ∃ w : Str, vs = [.str w] ∧ w.length ≤ 1000 ∧ ∀ v H', SowOk w v → Same H H' → Q v H'
theorem ok_signs_of_word (T : Txt K mg f_NoName___init__ f_TooMany___init__ f_Broken___init__ f_is_printable f_are_unlike_signs f_Dialect___init__ f_Dialect_told f_dialect_of f_makes_dialect f_is_name f_signs_of_word f_truths_of_word f_dialect_in f__law_cell_at f__law_mixed f__law_number f__law_some f__law_menus f__law_told f__law_title f__law_row f__law_spoilt f__law_signs f__law_read f__law_asked f_law C_Dialect C_DialectError N_DialectError C_NoText N_NoText C_NoTable N_NoTable C_NoDialect N_NoDialect C_NoRow N_NoRow C_NoName N_NoName C_TooMany N_TooMany C_Broken N_Broken fd_NoName___init__ fd_TooMany___init__ fd_Broken___init__ fd_is_printable fd_are_unlike_signs fd_Dialect___init__ fd_Dialect_told fd_dialect_of fd_makes_dialect fd_is_name fd_signs_of_word fd_truths_of_word fd_dialect_in fd__law_cell_at fd__law_mixed fd__law_number fd__law_some fd__law_menus fd__law_told fd__law_title fd__law_row fd__law_spoilt fd__law_signs fd__law_read fd__law_asked fd_law z_SMALL_LETTERS z_PRINTABLE dt_Dialect___init__) : FnOk P w K mg base CX0 1 f_signs_of_word fd_signs_of_word ["word"] (sp_signs_of_word K) := by
  refine T.F_signs_of_word.ok sc_signs_of_word (fun vs H Q E h => ?_) (fun cdv A outer s H vs Q E hr h => ?_)
  · obtain ⟨w, rfl, _⟩ := h; rfl
  · have hu := hu_of hr
    have hu0 := hr.units0
    obtain ⟨w, rfl, hw, k⟩ := h
    refine ⟨_, (pss_cons (ps_if (pt_cmpR op_eq (pv 0) pe_str (nomark _)) (pss_one (ps_ret pe_str)) pss_nil)
      (pss_cons (ps_set (i := 1) sc_signs_of_word.nd rfl (by first | exact Or.inl rfl | exact Or.inr rfl) pe_str (hs := sw_Constant))
      (pss_cons (ps_for PassesOwn.never rfl (piK_list K rfl (peK_bm K rfl PySem.F.plainAttrs_str PySem.F.slot_str_split PySem.F.type_str_split mt_split (pv 0) (pa_cons pe_str pa_nil st_Constant))) (pg_name (i := 2) sc_signs_of_word.nd rfl (by first | exact Or.inl rfl | exact Or.inr rfl))
      (pss_cons (ps_setC (i := 3) rfl sc_signs_of_word.nd rfl rfl (show CompScope ["word", "signs", "number", "found"] (defScope s_signs_of_word) ["sign", "number"] 1 [2] _ from ⟨rfl, by decide +kernel, by decide +kernel, by decide +kernel, by decide +kernel, rfl, rfl, by decide +kernel⟩) (pi_str (pe_gstr rfl T.gl_PRINTABLE.choose_spec)) (fun _ _ _ _ => (pg_name (i := 0) (show (["sign", "number"] : List Str).Nodup by decide +kernel) rfl (by first | exact Or.inl rfl | exact Or.inr rfl))) (fun _ _ _ _ => (pif_one (pt_cmpR op_eq (pe_callTy call_str_int rfl T.no_str (by decide +kernel) (pa_cons (pe_callB call_ord rfl T.no_ord (by decide +kernel) (pa_cons (pv 0) pa_nil st_Name)) pa_nil st_Call)) (pv 1) (nomark _)))) (fun _ _ _ _ => (pv 0)))
      (pss_cons (ps_if (pt_cmpR (op_eqL K rfl hu0) (pv 3) (pe_lst pa_nil) (nomark _)) (pss_one (ps_ret pe_non)) pss_nil)
      (pss_one (ps_set (i := 1) sc_signs_of_word.nd rfl (by first | exact Or.inl rfl | exact Or.inr rfl) (pe_op op_add_str (pv 1) (pe_ix (ixK_list K rfl) (pv 3) pe_int (fun _ _ => rfl))) (hs := sw_BinOp))))))
      (pss_one (ps_ret (pv 1)))))), ?_⟩
    refine ⟨_, rfl, rfl, _, rfl, ?_⟩
    refine rd2s (fun e => ?_) (fun e => ?_)
    · exact k _ H (.inl ⟨e, rfl⟩) (Same.refl H)
    refine ⟨_, rfl, rfl, _, _, rfl, rfl, (show w.length ≤ 100000 by omega), fun ss hj hf hn l hl => ⟨_, rfl, ⟨_, SqL.of upd_same⟩, ?_⟩⟩
    have hj : Str.join (sg 43) ss = w := hj
    have hf : ∀ p ∈ ss, 43 ∉ p.cps.toList := hf
    have s1 := same_new (o := .lst (ss.map V.str)) hl
    have hlen := join_count 43 ss
    rw [hj] at hlen
    refine for_list (K := K) (a := l) (xs := ss.map V.str) (fun i σ H2 => Same H H2 ∧ H2 l = some (.lst (ss.map V.str)) ∧ ∃ v1 v2 cs, sowM (ss.take i) = some cs ∧ σ = [some (.str w), some (.str ⟨cs.toArray⟩), v1, v2]) ⟨s1, upd_same, _, _, [], rfl, rfl⟩ (fun i σ H2 _ p => SqL.of p.2.1) ?_ ?_
    · rintro i x σ H2 hi ⟨s2, hl2, v1, v2, cs, hm, rfl⟩
      rw [List.getElem?_map] at hi
      obtain ⟨p, hi2, rfl⟩ := Option.map_eq_some_iff.mp hi
      have hil : i < ss.length := (List.getElem?_eq_some_iff.mp hi2).1
      have hcl := sowM_len hm
      rw [List.length_take] at hcl
      have hts : ss.take (i + 1) = ss.take i ++ [p] := by rw [List.take_add_one, hi2]; rfl
      dsimp only [gName]
      refine ⟨_, rfl, fun D hD => ?_⟩
      refine comp_str (fun j ys τ H3 => (∃ v, τ = [v, some (.str p)]) ∧ Same H2 H3 ∧ H3 D = some (.lst ys) ∧ ys = (fndL (PRN.take j) p).map fun c => V.str (sg c)) ⟨⟨_, rfl⟩, same_new hD, upd_same, rfl⟩ (fun j ys τ H3 _ q => q.2.2.1) ?_ ?_
      · rintro j c ys τ H3 hj3 ⟨⟨v, rfl⟩, s3, hl3, rfl⟩
        rw [T.zl_PRINTABLE, pr_list] at hj3
        have hpc : Pn c := prn_iff.mp (List.mem_of_getElem? hj3)
        have hb : ((c : Int)).natAbs.log2 < 1920 := by
          rw [Int.natAbs_natCast]
          have := hpc.2.1; have := hpc.1
          exact (Nat.log2_lt (by omega)).mpr (Nat.lt_of_lt_of_le (show c < 2 ^ 7 by omega) (Nat.pow_le_pow_right (by decide) (by decide)))
        have hts3 : PRN.take (j + 1) = PRN.take j ++ [c] := take_snoc hj3
        dsimp only [gName]
        refine ⟨_, rfl, _, rfl, rfl, _, rfl, hb, _, rfl, rfl, _, rfl, ?_⟩
        refine rd2s (fun e => ?_) (fun e => ?_)
        · have e : numS c = p := e
          have ef : fndL (PRN.take (j + 1)) p = fndL (PRN.take j) p ++ [c] := by
            rw [hts3]; unfold fndL; rw [List.filter_append, List.filter_cons_of_pos (p := fun c => decide (numS c = p)) (decide_eq_true e)]; rfl
          refine ⟨_, rfl, hl3, ?_, ⟨_, rfl⟩, (same_set hD s3), upd_same, ?_⟩
          · rw [List.length_map]
            exact Nat.lt_of_le_of_lt (Nat.le_trans (List.length_filter_le _ _) (List.length_take_le' _ _)) (by decide +kernel)
          · rw [ef, List.map_append]; rfl
        · have e : ¬ numS c = p := e
          have ef : fndL (PRN.take (j + 1)) p = fndL (PRN.take j) p := by
            rw [hts3]; unfold fndL; rw [List.filter_append, List.filter_cons_of_neg (p := fun c => decide (numS c = p)) (fun q => e (of_decide_eq_true q))]; exact List.append_nil _
          refine ⟨⟨_, rfl⟩, s3, hl3, ?_⟩
          rw [ef]
      · rintro ys τ H3 ⟨⟨v, rfl⟩, s3, hl3, rfl⟩
        rw [T.zl_PRINTABLE, pr_list, List.take_of_length_le (Nat.le_refl _)] at hl3
        dsimp only [gName]
        have sh := s2.trans s3
        have hl4 := s3 _ _ hl2
        have es := sowM_snoc (ss.take i) p
        rw [hm, ← hts] at es
        cases ef : fndL PRN p with
        | nil =>
          rw [ef] at hl3 es
          refine ⟨_, rfl, (by decide), fun p2 hp2 => ⟨_, _, _, rfl, rfl, SqL.of (same_new hp2 _ _ hl3), SqL.of upd_same, _, rfl, iteT (k _ _ ?_ (same_set (sh.free hp2) sh))⟩⟩
          have e2 : ss = ss.take (i + 1) ++ ss.drop (i + 1) := (List.take_append_drop _ _).symm
          have e3 : sowM ss = none := by rw [e2]; exact sowM_stop es
          exact .inr ⟨e, ss, hj, hf, hn, by rw [e3]; rfl⟩
        | cons c r =>
          rw [ef] at hl3 es
          have hle : (⟨cs.toArray⟩ : Str).length + (sg c).length ≤ sizeLine := by
            have e1 : (⟨cs.toArray⟩ : Str).length = cs.length := by show cs.toArray.size = _; simp
            have e2 : (sg c).length = 1 := rfl
            rw [e1, e2]
            exact Nat.le_trans (show cs.length + 1 ≤ 2000 by omega) (by decide)
          refine ⟨_, rfl, (by decide), fun p2 hp2 => ⟨_, _, _, rfl, rfl, SqL.of (same_new hp2 _ _ hl3), SqL.of upd_same, _, rfl, iteF (⟨_, rfl, _, rfl, _, _, _, _, rfl, rfl, SqL.of (same_new hp2 _ _ hl3), (show atI _ ((0 : Nat) : Int) = _ from atI_nat rfl), _, _, rfl, rfl, hle, (same_set (sh.free hp2) sh), (same_new hp2 _ _ hl4), ?_⟩)⟩⟩
          refine ⟨some (.str p), some (.ref D), cs ++ [c], es, ?_⟩
          rw [show (⟨(cs ++ [c]).toArray⟩ : Str) = (⟨cs.toArray⟩ : Str) ++ sg c from str_ext (by rw [app_list]; simp; rfl)]
          rfl
    · rintro σ H2 ⟨s2, hl2, v1, v2, cs, hm, rfl⟩
      refine ⟨_, rfl, k _ _ ?_ s2⟩
      rw [List.length_map, List.take_of_length_le (Nat.le_refl _)] at hm
      exact .inr ⟨e, ss, hj, hf, hn, by rw [hm]; rfl⟩
def sp_truths_of_word (K : PySem.W.Frag) : Sp := fun vs H Q _ => ∃ (z : Str), vs = [.str z] ∧ z.length ≤ 1000 ∧ ∀ p H', H p = none → H' p = some (.tup (z.cps.toList.map trV)) → Same H H' → Q (.ref p) H'
theorem ok_truths_of_word (T : Txt K mg f_NoName___init__ f_TooMany___init__ f_Broken___init__ f_is_printable f_are_unlike_signs f_Dialect___init__ f_Dialect_told f_dialect_of f_makes_dialect f_is_name f_signs_of_word f_truths_of_word f_dialect_in f__law_cell_at f__law_mixed f__law_number f__law_some f__law_menus f__law_told f__law_title f__law_row f__law_spoilt f__law_signs f__law_read f__law_asked f_law C_Dialect C_DialectError N_DialectError C_NoText N_NoText C_NoTable N_NoTable C_NoDialect N_NoDialect C_NoRow N_NoRow C_NoName N_NoName C_TooMany N_TooMany C_Broken N_Broken fd_NoName___init__ fd_TooMany___init__ fd_Broken___init__ fd_is_printable fd_are_unlike_signs fd_Dialect___init__ fd_Dialect_told fd_dialect_of fd_makes_dialect fd_is_name fd_signs_of_word fd_truths_of_word fd_dialect_in fd__law_cell_at fd__law_mixed fd__law_number fd__law_some fd__law_menus fd__law_told fd__law_title fd__law_row fd__law_spoilt fd__law_signs fd__law_read fd__law_asked fd_law z_SMALL_LETTERS z_PRINTABLE dt_Dialect___init__) : FnOk P w K mg base CX0 1 f_truths_of_word fd_truths_of_word ["word"] (sp_truths_of_word K) := by
  refine T.F_truths_of_word.ok sc_truths_of_word (fun vs H Q E h => ?_) (fun cdv A outer s H vs Q E hr h => ?_)
  · obtain ⟨z, rfl, _⟩ := h; rfl
  · have hu := hu_of hr
    have hu0 := hr.units0
    obtain ⟨z, rfl, hz, k⟩ := h
    have hsz : z.cps.toList.length = z.length := by rw [Array.length_toList]; rfl
    refine ⟨_, (pss_one (ps_ret (pe_callTy (callK_tuple_of K rfl) rfl T.no_tuple (by decide +kernel) (pa_cons (pe_comp rfl (show CompScope ["word"] (defScope s_truths_of_word) ["figure"] 1 [] _ from ⟨rfl, by decide +kernel, by decide +kernel, by decide +kernel, by decide +kernel, rfl, rfl, by decide +kernel⟩) (pi_str (pv 0)) (fun _ _ _ _ => (pg_name (i := 0) (show (["figure"] : List Str).Nodup by decide +kernel) rfl (by first | exact Or.inl rfl | exact Or.inr rfl))) (fun _ _ _ _ => pif_nil) (fun _ _ _ _ => (pe_ifExp (pt_cmpR op_in_str (pv 0) pe_str rfl) (pe_cmpR op_eq (pv 0) pe_str (nomark _)) pe_non))) pa_nil st_ListComp)))), ?_⟩
    refine ⟨_, rfl, _, rfl, fun D hD => ?_⟩
    refine comp_str (fun i ys τ H2 => (∃ v, τ = [v]) ∧ Same H H2 ∧ H2 D = some (.lst ys) ∧ ys = (z.cps.toList.take i).map trV) ⟨⟨_, rfl⟩, same_new hD, upd_same, rfl⟩ (fun i ys τ H2 _ p => p.2.2.1) ?_ ?_
    · rintro i c ys τ H2 hi ⟨⟨v, rfl⟩, s2, hl, rfl⟩
      have hil : i < z.cps.toList.length := (List.getElem?_eq_some_iff.mp hi).1
      have hn : ((z.cps.toList.take i).map trV).length < sizeLine := by
        rw [List.length_map, List.length_take]
        exact Nat.lt_of_le_of_lt (show min i z.cps.toList.length ≤ 1000 by omega) (by decide)
      have fin : ∀ y : V, y = trV c → (z.cps.toList.take i).map trV ++ [y] = (z.cps.toList.take (i + 1)).map trV := fun y ey => by
        rw [take_snoc hi, List.map_append, ey]; rfl
      refine gyes ?_
      refine ⟨_, rfl, _, _, rfl, rfl, _, rfl, ?_⟩
      rw [in01]
      refine rd2 (fun h => ?_) (fun h => ?_)
      · refine ⟨_, rfl, rfl, hl, hn, ⟨_, rfl⟩, (same_set hD s2), upd_same, ?_⟩
        refine fin _ ?_
        rw [sg_eq1]
        unfold trV
        rcases h with rfl | rfl <;> rfl
      · refine ⟨hl, hn, ⟨_, rfl⟩, (same_set hD s2), upd_same, ?_⟩
        refine fin _ ?_
        unfold trV
        rw [if_neg (fun e => h (.inr e)), if_neg (fun e => h (.inl e))]
    · rintro ys τ H2 ⟨⟨v, rfl⟩, s2, hl, rfl⟩
      rw [List.take_of_length_le (Nat.le_refl _)] at hl
      refine ⟨D, _, rfl, .inl ⟨SqL.of hl, fun p hp => ?_⟩⟩
      exact k p _ (s2.free hp) upd_same (s2.trans (same_new hp))
def sp_dialect_in (K : PySem.W.Frag) (C CN : Addr) : Sp := fun vs H Q E => ∃ (v : V), vs = [v] ∧ Knd H v ∧ (∀ w, v = .str w → w.length ≤ 1000) ∧ (∀ w n (p q f : Str) (b1 b2 b3 b4 : Bool), v = .str w → RowOf w n p q f b1 b2 b3 b4 → ∀ (t x dx : Addr) (H' : Hp), H t = none → H' t = some (.tup [.str n, .ref x]) → H x = none → H' x = some (.ins C dx (dfl p q f b1 b2 b3 b4)) → Same H H' → Q (.ref t) H') ∧ ((∀ w n (p q f : Str) (b1 b2 b3 b4 : Bool), v = .str w → ¬ RowOf w n p q f b1 b2 b3 b4) → ∀ H', Same H H' → E (.ref CN) none H')
theorem ok_dialect_in (T : Txt K mg f_NoName___init__ f_TooMany___init__ f_Broken___init__ f_is_printable f_are_unlike_signs f_Dialect___init__ f_Dialect_told f_dialect_of f_makes_dialect f_is_name f_signs_of_word f_truths_of_word f_dialect_in f__law_cell_at f__law_mixed f__law_number f__law_some f__law_menus f__law_told f__law_title f__law_row f__law_spoilt f__law_signs f__law_read f__law_asked f_law C_Dialect C_DialectError N_DialectError C_NoText N_NoText C_NoTable N_NoTable C_NoDialect N_NoDialect C_NoRow N_NoRow C_NoName N_NoName C_TooMany N_TooMany C_Broken N_Broken fd_NoName___init__ fd_TooMany___init__ fd_Broken___init__ fd_is_printable fd_are_unlike_signs fd_Dialect___init__ fd_Dialect_told fd_dialect_of fd_makes_dialect fd_is_name fd_signs_of_word fd_truths_of_word fd_dialect_in fd__law_cell_at fd__law_mixed fd__law_number fd__law_some fd__law_menus fd__law_told fd__law_title fd__law_row fd__law_spoilt fd__law_signs fd__law_read fd__law_asked fd_law z_SMALL_LETTERS z_PRINTABLE dt_Dialect___init__) : FnOk P w K mg base (CXe P w) 7 f_dialect_in fd_dialect_in ["row"] (sp_dialect_in K C_Dialect C_NoRow) := by
  have G_dialect_of : FnOk P w K mg base (CXe P w) 5 f_dialect_of fd_dialect_of ["told"] (sp_dialect_of K C_Dialect C_NoDialect) := ok_dialect_of T
  have G_is_name : FnOk P w K mg base CX0 1 f_is_name fd_is_name ["thing"] (sp_is_name K) := ok_is_name T
  have G_makes_dialect : FnOk P w K mg base CX0 6 f_makes_dialect fd_makes_dialect ["told"] (sp_makes_dialect K) := ok_makes_dialect T
  have G_signs_of_word : FnOk P w K mg base CX0 1 f_signs_of_word fd_signs_of_word ["word"] (sp_signs_of_word K) := ok_signs_of_word T
  have G_truths_of_word : FnOk P w K mg base CX0 1 f_truths_of_word fd_truths_of_word ["word"] (sp_truths_of_word K) := ok_truths_of_word T
  refine T.F_dialect_in.okE sc_dialect_in (fun vs H Q E h => ?_) (fun cdv A outer s H vs Q E hr h => ?_)
  · obtain ⟨v, rfl, _⟩ := h; rfl
  · have hu := hu_of hr
    have hu0 := hr.units0
    obtain ⟨v, rfl, hk, hb, k1, k2⟩ := h
    refine ⟨_, (pss_cons (ps_set (i := 1) sc_dialect_in.nd rfl (by first | exact Or.inl rfl | exact Or.inr rfl) (pe_ifExp (pt_val (pe_callB (callK_isinst K rfl) rfl T.no_isinstance (by decide +kernel) (pa_cons (pv 0) (pa_cons (pe_bty "str" rfl T.no_str (by decide +kernel)) pa_nil st_Name) st_Name))) (peK_bm K rfl PySem.F.plainAttrs_str PySem.F.slot_str_split PySem.F.type_str_split mt_split (pv 0) (pa_cons pe_str pa_nil st_Constant)) (pe_lst pa_nil)) (hs := sw_IfExp))
      (pss_cons (ps_if (PW.pt (pw_or (pt_cmpR op_ne (pe_callB (callK_len_seq K rfl) rfl T.no_len (by decide +kernel) (pa_cons (pv 1) pa_nil st_Name)) pe_int (nomark _)) (pw_or (pt_cmpR op_ne (pe_ix (ixK_list K rfl) (pv 1) pe_int (fun _ _ => rfl)) pe_str (nomark _)) (pw_or1 (pt_not (pt_val (pe_call (k := 1) G_is_name (hr.mono (by decide)) rfl T.g_is_name T.F_is_name.kp T.b_is_name .nil pass0 (pa_cons (pe_ix (ixK_list K rfl) (pv 1) pe_int (fun _ _ => rfl)) pa_nil st_Subscript)))))))) (pss_one (ps_raise rfl T.x_NoRow (.inr ⟨_, _, rfl, T.x_DialectError⟩) rfl T.g_NoRow (pa_cons pe_str pa_nil st_Constant))) pss_nil)
      (pss_cons (ps_set (i := 2) sc_dialect_in.nd rfl (by first | exact Or.inl rfl | exact Or.inr rfl) (pe_op (opK_catT K rfl) (pe_callTy (callK_tuple_of K rfl) rfl T.no_tuple (by decide +kernel) (pa_cons (pe_comp rfl (show CompScope ["row", "words", "told"] (defScope s_dialect_in) ["word"] 1 [] _ from ⟨rfl, by decide +kernel, by decide +kernel, by decide +kernel, by decide +kernel, rfl, rfl, by decide +kernel⟩) (piK_list K rfl (pe_slice (slK_list K rfl) (pv 1) (po_some pe_int) (po_some pe_int))) (fun _ _ _ _ => (pg_name (i := 0) (show (["word"] : List Str).Nodup by decide +kernel) rfl (by first | exact Or.inl rfl | exact Or.inr rfl))) (fun _ _ _ _ => pif_nil) (fun _ _ _ _ => (pe_call (k := 1) G_signs_of_word (hr.mono (by decide)) rfl T.g_signs_of_word T.F_signs_of_word.kp T.b_signs_of_word .nil pass0 (pa_cons (pv 0) pa_nil st_Name)))) pa_nil st_ListComp)) (pe_call (k := 1) G_truths_of_word (hr.mono (by decide)) rfl T.g_truths_of_word T.F_truths_of_word.kp T.b_truths_of_word .nil pass0 (pa_cons (pe_ix (ixK_list K rfl) (pv 1) pe_int (fun _ _ => rfl)) pa_nil st_Subscript))) (hs := sw_BinOp))
      (pss_cons (ps_if (pt_not (pt_val (pe_call (k := 6) G_makes_dialect (hr.mono (by decide)) rfl T.g_makes_dialect T.F_makes_dialect.kp T.b_makes_dialect .nil pass0 (pa_cons (pv 2) pa_nil st_Name)))) (pss_one (ps_raise rfl T.x_NoRow (.inr ⟨_, _, rfl, T.x_DialectError⟩) rfl T.g_NoRow (pa_cons pe_str pa_nil st_Constant))) pss_nil)
      (pss_one (ps_ret (pe_tup (pa_cons (pe_ix (ixK_list K rfl) (pv 1) pe_int (fun _ _ => rfl)) (pa_cons (pe_call (k := 5) G_dialect_of (hr.mono (by decide)) rfl T.g_dialect_of T.F_dialect_of.kp T.b_dialect_of .nil passE (pa_cons (pv 2) pa_nil st_Name)) pa_nil st_Call) st_Subscript)))))))), ?_⟩
    cases hk with
    | str w =>
      have hw := hb w rfl
      refine ⟨_, rfl, _, _, _, _, rfl, .str _, .inl ⟨_, ⟨rfl, rfl⟩⟩, _, rfl, iteT (⟨_, rfl, rfl, _, _, rfl, rfl, (show w.length ≤ 100000 by omega), fun ss hj hf hn l hl => ⟨_, rfl, _, _, rfl, .inl (SqL.of upd_same), rfl, _, rfl, ?_⟩⟩)⟩
      have hj : Str.join (sg 32) ss = w := hj
      have hf : ∀ p ∈ ss, 32 ∉ p.cps.toList := hf
      have hlen := join_count 32 ss
      rw [hj] at hlen
      refine rd2in (fun h6 => ?_) (fun h6 => ?_)
      · refine iteT (⟨(by decide), k2 ?_ _ (same_set hl (Same.refl _))⟩)
        intro w' n p q f b1 b2 b3 b4 e hR
        cases e
        obtain ⟨w1, w2, w3, w4, v1, v2, v3, e1, e2, _⟩ := hR.ex
        have e3 := join_inj hn (by intro z; cases z) hf e2 (hj.trans e1.symm)
        rw [e3] at h6
        exact h6 (by simp)
      have h6 : ss.length = 6 := by rw [List.length_map] at h6; omega
      obtain ⟨w0, w1, w2, w3, w4, w5, rfl⟩ : ∃ w0 w1 w2 w3 w4 w5, ss = [w0, w1, w2, w3, w4, w5] := by
        match ss, h6 with
        | [w0, w1, w2, w3, w4, w5], _ => exact ⟨_, _, _, _, _, _, rfl⟩
      have inv := fun n p q f b1 b2 b3 b4 (h : RowOf w n p q f b1 b2 b3 b4) => row_inv h hj hf
      have hl6 : ∀ z ∈ [w0, w1, w2, w3, w4, w5], z.length ≤ 1000 := fun z hz => Nat.le_trans (join_mem_len 32 hz) (by rw [hj]; exact hw)
      (have s1 := same_new (o := HO.lst (List.map V.str [w0, w1, w2, w3, w4, w5])) hl; have q1 := upd_same (H := H) (a := l) (o := HO.lst (List.map V.str [w0, w1, w2, w3, w4, w5])); generalize upd H l (HO.lst (List.map V.str [w0, w1, w2, w3, w4, w5])) = H1 at s1 q1 ⊢)
      refine ⟨_, rfl, _, _, _, _, rfl, rfl, SqL.of q1, rfl, rfl, _, rfl, ?_⟩
      refine rd2sn (fun h0 => ?_) (fun h0 => ?_)
      · refine iteT (⟨(by decide), k2 ?_ _ s1⟩)
        intro w' n p q f b1 b2 b3 b4 e hR
        cases e
        exact h0 (inv _ _ _ _ _ _ _ _ hR).1
      have hb1 : ∀ z, V.str w1 = .str z → z.length ≤ 10000 := fun z e => by cases e; exact Nat.le_trans (hl6 w1 (by simp)) (by decide)
      refine ⟨_, rfl, _, _, _, _, rfl, rfl, SqL.of q1, rfl, _, rfl, (Knd.str w1), hb1, fun H2 s2 => ⟨_, rfl, ?_⟩⟩
      refine rdB (fun hN => ?_) (fun hN => ?_)
      · refine ⟨(by decide), k2 ?_ _ (s1.trans s2)⟩
        intro w' n p q f b1 b2 b3 b4 e hR
        cases e
        rw [(inv _ _ _ _ _ _ _ _ hR).2.1] at hN
        cases hN
      have hN : isN (.str w1) = true := by cases e : isN (.str w1) with | true => rfl | false => rw [e] at hN; cases hN
      have q2 := s2 _ _ q1
      refine ⟨_, rfl, _, rfl, _, rfl, _, _, rfl, SqL.of q2, fun l2 hl2 => ⟨_, rfl, ⟨_, SqL.of upd_same⟩, fun D hD => ?_⟩⟩
      have e3 : cutV ([w0, w1, w2, w3, w4, w5].map V.str) (some 2) (some 5) = [w2, w3, w4].map V.str := rfl
      rw [e3] at hD ⊢
      (have s3 := same_new (o := HO.lst (List.map V.str [w2, w3, w4])) hl2; have q3 := upd_same (H := H2) (a := l2) (o := HO.lst (List.map V.str [w2, w3, w4])); generalize upd H2 l2 (HO.lst (List.map V.str [w2, w3, w4])) = H3 at s3 q3 hD ⊢)
      refine comp_list (K := K) (a := l2) (xs := [w2, w3, w4].map V.str) (fun i ys τ H4 => (∃ v, τ = [v]) ∧ Same H3 H4 ∧ H4 D = some (.lst ys) ∧ ys.length = i ∧ ∀ (j : Nat) y, ys[j]? = some y → ∃ z, [w2, w3, w4][j]? = some z ∧ SowOk z y) ⟨⟨_, rfl⟩, same_new hD, upd_same, rfl, fun j y h => by simp at h⟩ (fun i ys τ H4 _ p => ⟨SqL.of (p.2.1 _ _ q3), p.2.2.1⟩) ?_ ?_
      · rintro i y ys τ H4 hi ⟨⟨v, rfl⟩, s4, hl4, hyl, hy⟩
        rw [List.getElem?_map] at hi
        obtain ⟨z, hi2, rfl⟩ := Option.map_eq_some_iff.mp hi
        have hil : i < 3 := (List.getElem?_eq_some_iff.mp hi2).1
        have hz : z.length ≤ 1000 := hl6 z (by have := List.mem_of_getElem? hi2; simp only [List.mem_cons, List.not_mem_nil, or_false] at this ⊢; rcases this with h | h | h <;> simp [h])
        have hn5 : ys.length < sizeLine := by rw [hyl]; exact Nat.lt_trans hil (by decide)
        refine gyes ?_
        refine ⟨_, rfl, _, rfl, hz, fun v5 H5 hv5 s5 => ⟨(s5 _ _ hl4), hn5, ⟨_, rfl⟩, (same_set hD (s4.trans s5)), upd_same, ?_, ?_⟩⟩
        · rw [List.length_append, hyl]; rfl
        · intro j y hjy
          by_cases hji : j < ys.length
          · exact hy j y (by rwa [List.getElem?_append_left hji] at hjy)
          · rw [List.getElem?_append_right (by omega)] at hjy
            have : j = ys.length := by
              rcases Nat.lt_or_ge (j - ys.length) 1 with h | h
              · omega
              · rw [List.getElem?_eq_none (by simpa using h)] at hjy; cases hjy
            subst this
            rw [Nat.sub_self] at hjy
            cases hjy
            exact ⟨z, by rw [hyl]; exact hi2, hv5⟩
      · rintro ys τ H4 ⟨⟨v, rfl⟩, s4, hl4, hyl, hy⟩
        obtain ⟨v1, v2, v3, rfl⟩ : ∃ v1 v2 v3, ys = [v1, v2, v3] := by
          match ys, hyl with
          | [v1, v2, v3], _ => exact ⟨_, _, _, rfl⟩
        obtain ⟨_, e1, o1⟩ := hy 0 v1 rfl
        obtain ⟨_, e2, o2⟩ := hy 1 v2 rfl
        obtain ⟨_, e3, o3⟩ := hy 2 v3 rfl
        cases e1; cases e2; cases e3
        have q4 := s4 _ _ (s3 _ _ q2)
        refine ⟨D, _, rfl, .inl ⟨SqL.of hl4, fun t5 ht5 => ?_⟩⟩
        (have s5 := same_new (o := HO.tup [v1, v2, v3]) ht5; have q5 := upd_same (H := H4) (a := t5) (o := HO.tup [v1, v2, v3]); generalize upd H4 t5 (HO.tup [v1, v2, v3]) = H5 at s5 q5 ⊢)
        have hz5 : w5.length ≤ 1000 := hl6 w5 (by simp)
        have hK : ∀ (J : Hp), ∀ y ∈ [v1, v2, v3] ++ w5.cps.toList.map trV, K1 K J y := fun J y hy => by
          rcases List.mem_append.mp hy with h | h
          · simp only [List.mem_cons, List.not_mem_nil, or_false] at h
            rcases h with rfl | rfl | rfl
            · exact k1_of_sow o1 (hl6 w2 (by simp))
            · exact k1_of_sow o2 (hl6 w3 (by simp))
            · exact k1_of_sow o3 (hl6 w4 (by simp))
          · obtain ⟨c, _, rfl⟩ := List.mem_map.mp h
            exact k1_of_tr c
        have bad : ¬ G7 ([v1, v2, v3] ++ w5.cps.toList.map trV) → ∀ w' n p q f b1 b2 b3 b4, V.str w = .str w' → ¬ RowOf w' n p q f b1 b2 b3 b4 := fun hG w' n p q f b1 b2 b3 b4 e hR => by
          cases e
          exact hG ⟨p, q, f, b1, b2, b3, b4, (inv _ _ _ _ _ _ _ _ hR).2.2.2 v1 v2 v3 o1 o2 o3, hR.gd⟩
        have good : ∀ p q f b1 b2 b3 b4, [v1, v2, v3] ++ w5.cps.toList.map trV = seven p q f b1 b2 b3 b4 → Gd p q f → RowOf w w1 p q f b1 b2 b3 b4 := fun p q f b1 b2 b3 b4 e g => ⟨⟨w2, w3, w4, w5, v1, v2, v3, by rw [← h0]; exact hj, by rw [← h0]; exact hf, hN, o1, o2, o3, e⟩, g⟩
        have hlen5 : w5.cps.toList.length = w5.length := Array.length_toList
        refine ⟨_, rfl, _, _, _, _, rfl, rfl, SqL.of (s5 _ _ q4), rfl, _, rfl, hz5, fun t6 H6 ht6 q6 s6 => ⟨_, _, _, _, rfl, rfl, SqT.of (s6 _ _ q5), SqT.of q6, ?_, ?_, ?_, ?_⟩⟩
        · intro z; cases z
        · rw [List.length_map, hlen5]; exact Nat.le_trans (show 3 + w5.length ≤ 2000 by omega) (by decide)
        · intro he
          have q7 := s6 _ _ q5
          have e7 : [v1, v2, v3] = [v1, v2, v3] ++ w5.cps.toList.map trV := by rw [he]; rfl
          have hK7 : ∀ y ∈ [v1, v2, v3], K1 K H6 y := fun y hy => hK _ y (by rw [← e7]; exact hy)
          have nG : ¬ G7 [v1, v2, v3] := fun hG => absurd (g7_len hG) (by show ¬ 3 = 7; decide)
          dsimp only [gName]
          refine ⟨_, rfl, _, _, rfl, q7, hK7, fun H7 b7 i7 s7 => ⟨_, rfl, ?_⟩⟩
          have hb7 : b7 = false := by
            cases b7 with
            | true => exact absurd (i7.mp rfl) nG
            | false => rfl
          subst hb7
          refine iteT (⟨(by decide), k2 (bad (by rw [← e7]; exact nG)) _ ((((((s1.trans s2).trans s3).trans s4).trans s5).trans s6).trans s7)⟩)
        · intro he t7 ht7
          (have s7 := same_new (o := HO.tup ([v1, v2, v3] ++ List.map trV w5.cps.toList)) ht7; have q7 := upd_same (H := H6) (a := t7) (o := HO.tup ([v1, v2, v3] ++ List.map trV w5.cps.toList)); generalize upd H6 t7 (HO.tup ([v1, v2, v3] ++ List.map trV w5.cps.toList)) = H7 at s7 q7 ⊢)
          dsimp only [gName]
          refine ⟨_, rfl, _, _, rfl, q7, (hK H7), fun H8 b8 i8 s8 => ⟨_, rfl, ?_⟩⟩
          by_cases hG : G7 ([v1, v2, v3] ++ w5.cps.toList.map trV)
          rotate_left
          · have hb8 : b8 = false := by
              cases b8 with
              | true => exact absurd (i8.mp rfl) hG
              | false => rfl
            subst hb8
            refine iteT (⟨(by decide), k2 (bad hG) _ (((((((s1.trans s2).trans s3).trans s4).trans s5).trans s6).trans s7).trans s8)⟩)
          · have hb8 : b8 = true := i8.mpr hG
            subst hb8
            have q8 := s8 _ _ q7
            have q8l := s8 _ _ (s7 _ _ (s6 _ _ (s5 _ _ q4)))
            refine iteF (⟨_, rfl, _, _, _, _, rfl, rfl, SqL.of q8l, rfl, _, rfl, _, rfl, .inr ⟨_, ⟨.tup q8, (by decide)⟩⟩, ?_, ?_, ?_⟩)
            · intro t ys e1 e2
              cases e1
              rw [q8] at e2
              cases e2
              exact hK H8
            · intro t p q f b1 b2 b3 b4 e1 e2 g x dx H9 hx0 hx s9
              cases e1
              rw [q8] at e2
              have e := HO.tup.inj (Option.some.inj e2)
              refine ⟨(by show (2 : Nat) ≤ sizeLine; decide), fun t9 ht9 => k1 _ _ _ _ _ _ _ _ _ rfl (good _ _ _ _ _ _ _ e g) _ _ _ _ (((((((((s1.trans s2).trans s3).trans s4).trans s5).trans s6).trans s7).trans s8).trans s9).free ht9) upd_same ((((((((s1.trans s2).trans s3).trans s4).trans s5).trans s6).trans s7).trans s8).free hx0) (same_new ht9 _ _ hx) (same_set (((((((((s1.trans s2).trans s3).trans s4).trans s5).trans s6).trans s7).trans s8).trans s9).free ht9) ((((((((s1.trans s2).trans s3).trans s4).trans s5).trans s6).trans s7).trans s8).trans s9))⟩
            · intro hb9
              exact absurd hG (hb9 t7 _ rfl q8)
    | non =>
      refine ⟨_, rfl, _, _, _, _, rfl, .non, .inl ⟨_, ⟨rfl, rfl⟩⟩, _, rfl, iteF (⟨(by decide), fun l hl => ⟨_, rfl, _, _, rfl, .inl (SqL.of upd_same), rfl, _, rfl, rdJn (by decide +kernel) (iteT (⟨(by decide), k2 ?_ _ (same_set hl (Same.refl _))⟩))⟩⟩)⟩
      intro w n p q f b1 b2 b3 b4 e; cases e
    | bl b =>
      refine ⟨_, rfl, _, _, _, _, rfl, .bl _, .inl ⟨_, ⟨rfl, rfl⟩⟩, _, rfl, iteF (⟨(by decide), fun l hl => ⟨_, rfl, _, _, rfl, .inl (SqL.of upd_same), rfl, _, rfl, rdJn (by decide +kernel) (iteT (⟨(by decide), k2 ?_ _ (same_set hl (Same.refl _))⟩))⟩⟩)⟩
      intro w n p q f b1 b2 b3 b4 e; cases e
    | int b =>
      refine ⟨_, rfl, _, _, _, _, rfl, .int _, .inl ⟨_, ⟨rfl, rfl⟩⟩, _, rfl, iteF (⟨(by decide), fun l hl => ⟨_, rfl, _, _, rfl, .inl (SqL.of upd_same), rfl, _, rfl, rdJn (by decide +kernel) (iteT (⟨(by decide), k2 ?_ _ (same_set hl (Same.refl _))⟩))⟩⟩)⟩
      intro w n p q f b1 b2 b3 b4 e; cases e
    | lst e fl =>
      refine ⟨_, rfl, _, _, _, _, rfl, .lst e, .inl ⟨_, ⟨rfl, rfl⟩⟩, _, rfl, iteF (⟨(by decide), fun l hl => ⟨_, rfl, _, _, rfl, .inl (SqL.of upd_same), rfl, _, rfl, rdJn (by decide +kernel) (iteT (⟨(by decide), k2 ?_ _ (same_set hl (Same.refl _))⟩))⟩⟩)⟩
      intro w n p q f b1 b2 b3 b4 e; cases e
    | tup e fl =>
      refine ⟨_, rfl, _, _, _, _, rfl, .tup e, .inl ⟨_, ⟨rfl, rfl⟩⟩, _, rfl, iteF (⟨(by decide), fun l hl => ⟨_, rfl, _, _, rfl, .inl (SqL.of upd_same), rfl, _, rfl, rdJn (by decide +kernel) (iteT (⟨(by decide), k2 ?_ _ (same_set hl (Same.refl _))⟩))⟩⟩)⟩
      intro w n p q f b1 b2 b3 b4 e; cases e
    | dic e fl =>
      refine ⟨_, rfl, _, _, _, _, rfl, .dK e, .inl ⟨_, ⟨rfl, rfl⟩⟩, _, rfl, iteF (⟨(by decide), fun l hl => ⟨_, rfl, _, _, rfl, .inl (SqL.of upd_same), rfl, _, rfl, rdJn (by decide +kernel) (iteT (⟨(by decide), k2 ?_ _ (same_set hl (Same.refl _))⟩))⟩⟩)⟩
      intro w n p q f b1 b2 b3 b4 e; cases e
def sp__law_cell_at (K : PySem.W.Frag) : Sp := fun vs H Q _ => ∃ (a : Addr) (ns : List Int) (i : Int), vs = [.ref a, .int i] ∧ SqL K H a (ns.map V.int) ∧ 0 ≤ i ∧ ∀ r : Int, Q (.int r) H
theorem ok__law_cell_at (T : Txt K mg f_NoName___init__ f_TooMany___init__ f_Broken___init__ f_is_printable f_are_unlike_signs f_Dialect___init__ f_Dialect_told f_dialect_of f_makes_dialect f_is_name f_signs_of_word f_truths_of_word f_dialect_in f__law_cell_at f__law_mixed f__law_number f__law_some f__law_menus f__law_told f__law_title f__law_row f__law_spoilt f__law_signs f__law_read f__law_asked f_law C_Dialect C_DialectError N_DialectError C_NoText N_NoText C_NoTable N_NoTable C_NoDialect N_NoDialect C_NoRow N_NoRow C_NoName N_NoName C_TooMany N_TooMany C_Broken N_Broken fd_NoName___init__ fd_TooMany___init__ fd_Broken___init__ fd_is_printable fd_are_unlike_signs fd_Dialect___init__ fd_Dialect_told fd_dialect_of fd_makes_dialect fd_is_name fd_signs_of_word fd_truths_of_word fd_dialect_in fd__law_cell_at fd__law_mixed fd__law_number fd__law_some fd__law_menus fd__law_told fd__law_title fd__law_row fd__law_spoilt fd__law_signs fd__law_read fd__law_asked fd_law z_SMALL_LETTERS z_PRINTABLE dt_Dialect___init__) : FnOk P w K mg base CX0 1 f__law_cell_at fd__law_cell_at ["_law_script", "_law_k"] (sp__law_cell_at K) := by
  refine T.F__law_cell_at.ok sc__law_cell_at (fun vs H Q E h => ?_) (fun cdv A outer s H vs Q E hr h => ?_)
  · obtain ⟨a, ns, i, rfl, _⟩ := h; rfl
  · have hu := hu_of hr
    have hu0 := hr.units0
    obtain ⟨a, ns, i, rfl, hS, hi, k⟩ := h
    refine ⟨_, (pss_cons (ps_if (pt_cmpR op_lt (pv 1) (pe_callB (callK_len_seq K rfl) rfl T.no_len (by decide +kernel) (pa_cons (pv 0) pa_nil st_Name)) (nomark _)) (pss_one (ps_ret (pe_ix (ixK_list K rfl) (pv 0) (pv 1) (fun _ _ => rfl)))) pss_nil)
      (pss_one (ps_ret pe_int))), ?_⟩
    refine ⟨_, rfl, _, rfl, a, _, rfl, .inl hS, _, _, rfl, rfl, _, rfl, ?_⟩
    refine ite2 (fun hc => ?_) (fun _ => ?_)
    · have hlt := of_decide_eq_true hc
      obtain ⟨v, ev, hv⟩ := at_int hi hlt
      obtain ⟨r, _, rfl⟩ := List.mem_map.mp hv
      exact ⟨_, rfl, _, rfl, a, _, _, _, rfl, rfl, hS, ev, k r⟩
    · exact k 0
def sp__law_mixed : Sp := fun vs H Q _ => ∃ a b : Int, vs = [.int a, .int b] ∧ 0 ≤ a ∧ a < 4294967296 ∧ 0 ≤ b ∧ b < 65536 ∧ ∀ r : Int, 0 ≤ r → r < 49979687 → Q (.int r) H
theorem ok__law_mixed (T : Txt K mg f_NoName___init__ f_TooMany___init__ f_Broken___init__ f_is_printable f_are_unlike_signs f_Dialect___init__ f_Dialect_told f_dialect_of f_makes_dialect f_is_name f_signs_of_word f_truths_of_word f_dialect_in f__law_cell_at f__law_mixed f__law_number f__law_some f__law_menus f__law_told f__law_title f__law_row f__law_spoilt f__law_signs f__law_read f__law_asked f_law C_Dialect C_DialectError N_DialectError C_NoText N_NoText C_NoTable N_NoTable C_NoDialect N_NoDialect C_NoRow N_NoRow C_NoName N_NoName C_TooMany N_TooMany C_Broken N_Broken fd_NoName___init__ fd_TooMany___init__ fd_Broken___init__ fd_is_printable fd_are_unlike_signs fd_Dialect___init__ fd_Dialect_told fd_dialect_of fd_makes_dialect fd_is_name fd_signs_of_word fd_truths_of_word fd_dialect_in fd__law_cell_at fd__law_mixed fd__law_number fd__law_some fd__law_menus fd__law_told fd__law_title fd__law_row fd__law_spoilt fd__law_signs fd__law_read fd__law_asked fd_law z_SMALL_LETTERS z_PRINTABLE dt_Dialect___init__) : FnOk P w K mg base CX0 1 f__law_mixed fd__law_mixed ["_law_number_here", "_law_salt"] sp__law_mixed := by
  refine T.F__law_mixed.ok sc__law_mixed (fun vs H Q E h => ?_) (fun cdv A outer s H vs Q E hr h => ?_)
  · obtain ⟨a, b, rfl, _⟩ := h; rfl
  · have hu := hu_of hr
    have hu0 := hr.units0
    obtain ⟨a, b, rfl, ha, ha', hb, hb', k⟩ := h
    refine ⟨_, (pss_cons (ps_set (i := 2) sc__law_mixed.nd rfl (by first | exact Or.inl rfl | exact Or.inr rfl) (pe_op op_mod (pe_op op_add (pe_op op_mul (pv 0) (pe_op op_add pe_int (pe_op op_mul pe_int (pv 1)))) (pe_op op_mul pe_int (pv 1))) pe_int) (hs := sw_BinOp))
      (pss_cons (ps_set (i := 3) sc__law_mixed.nd rfl (by first | exact Or.inl rfl | exact Or.inr rfl) (pe_op op_mod (pe_op op_add (pe_op op_mul (pv 2) (pv 2)) (pv 1)) pe_int) (hs := sw_BinOp))
      (pss_one (ps_ret (pe_op op_mod (pe_op op_add (pe_op op_mul (pv 3) (pv 3)) (pv 2)) pe_int))))), ?_⟩
    refine ⟨_, rfl, _, rfl, _, _, rfl, rfl, .inl ⟨by decide, by decide⟩, _, _, rfl, rfl, _, _, rfl, rfl, .inl ⟨by omega, by omega⟩, _, rfl, _, _, rfl, rfl, .inl ⟨by decide, by decide⟩, _, _, rfl, rfl, _, _, rfl, rfl, (by show (0 : Int) < 15485863; decide), ?_⟩
    have h1 := Int.emod_nonneg (a * (1299709 + 210 * b) + 7919 * b) (show (15485863 : Int) ≠ 0 by decide)
    have h2 := Int.emod_lt_of_pos (a * (1299709 + 210 * b) + 7919 * b) (show (0 : Int) < 15485863 by decide)
    refine ⟨_, rfl, _, rfl, _, _, rfl, rfl, .inl ⟨by omega, by omega⟩, _, rfl, _, _, rfl, rfl, _, _, rfl, rfl, (by show (0 : Int) < 32452843; decide), ?_⟩
    refine ⟨_, rfl, _, rfl, _, _, rfl, rfl, .inl ⟨?_, ?_⟩, _, rfl, _, _, rfl, rfl, _, _, rfl, rfl, (by show (0 : Int) < 49979687; decide), ?_⟩
    · exact Int.lt_of_lt_of_le (by decide) (Int.emod_nonneg _ (by decide))
    · exact Int.lt_trans (Int.emod_lt_of_pos _ (by decide)) (by decide)
    · exact k _ (Int.emod_nonneg _ (by decide)) (Int.emod_lt_of_pos _ (by decide))
def sp__law_number : Sp := fun vs H Q _ => ∃ c s : Int, vs = [.int c, .int s] ∧ 0 ≤ s ∧ s < 60000 ∧ ∀ r : Int, Q (.int r) H
theorem ok__law_number (T : Txt K mg f_NoName___init__ f_TooMany___init__ f_Broken___init__ f_is_printable f_are_unlike_signs f_Dialect___init__ f_Dialect_told f_dialect_of f_makes_dialect f_is_name f_signs_of_word f_truths_of_word f_dialect_in f__law_cell_at f__law_mixed f__law_number f__law_some f__law_menus f__law_told f__law_title f__law_row f__law_spoilt f__law_signs f__law_read f__law_asked f_law C_Dialect C_DialectError N_DialectError C_NoText N_NoText C_NoTable N_NoTable C_NoDialect N_NoDialect C_NoRow N_NoRow C_NoName N_NoName C_TooMany N_TooMany C_Broken N_Broken fd_NoName___init__ fd_TooMany___init__ fd_Broken___init__ fd_is_printable fd_are_unlike_signs fd_Dialect___init__ fd_Dialect_told fd_dialect_of fd_makes_dialect fd_is_name fd_signs_of_word fd_truths_of_word fd_dialect_in fd__law_cell_at fd__law_mixed fd__law_number fd__law_some fd__law_menus fd__law_told fd__law_title fd__law_row fd__law_spoilt fd__law_signs fd__law_read fd__law_asked fd_law z_SMALL_LETTERS z_PRINTABLE dt_Dialect___init__) : FnOk P w K mg base CX0 2 f__law_number fd__law_number ["_law_cell", "_law_salt"] sp__law_number := by
  have G__law_mixed : FnOk P w K mg base CX0 1 f__law_mixed fd__law_mixed ["_law_number_here", "_law_salt"] sp__law_mixed := ok__law_mixed T
  refine T.F__law_number.ok sc__law_number (fun vs H Q E h => ?_) (fun cdv A outer s H vs Q E hr h => ?_)
  · obtain ⟨c, s, rfl, _⟩ := h; rfl
  · have hu := hu_of hr
    have hu0 := hr.units0
    obtain ⟨c, sa, rfl, hs, hs', k⟩ := h
    refine ⟨_, (pss_cons (ps_if (PW.pt (pw_and (pt_cmpR op_eq (pe_op op_mod (pv 0) pe_int) pe_int (nomark _)) (pw_and1 (pt_cmpR op_ge (pv 0) (pe_op op_mul pe_int (pe_op op_pow pe_int pe_int)) (nomark _))))) (pss_one (ps_ret (pe_op op_sub (pe_op op_fdiv (pv 0) pe_int) (pe_op op_pow pe_int pe_int)))) pss_nil)
      (pss_cons (ps_set (i := 2) sc__law_number.nd rfl (by first | exact Or.inl rfl | exact Or.inr rfl) (pe_op op_mod (pv 0) pe_int) (hs := sw_BinOp))
      (pss_cons (ps_set (i := 3) sc__law_number.nd rfl (by first | exact Or.inl rfl | exact Or.inr rfl) (pe_op op_add (pe_op op_mul (pe_call (k := 1) G__law_mixed (hr.mono (by decide)) rfl T.g__law_mixed T.F__law_mixed.kp T.b__law_mixed .nil pass0 (pa_cons (pv 2) (pa_cons (pv 1) pa_nil st_Name) st_Name)) pe_int) (pe_call (k := 1) G__law_mixed (hr.mono (by decide)) rfl T.g__law_mixed T.F__law_mixed.kp T.b__law_mixed .nil pass0 (pa_cons (pv 2) (pa_cons (pe_op op_add (pv 1) pe_int) pa_nil st_BinOp) st_Name))) (hs := sw_BinOp))
      (pss_one (ps_ret (pe_op op_add (pe_op op_mul (pv 3) pe_int) (pe_call (k := 1) G__law_mixed (hr.mono (by decide)) rfl T.g__law_mixed T.F__law_mixed.kp T.b__law_mixed .nil pass0 (pa_cons (pv 2) (pa_cons (pe_op op_add (pv 1) pe_int) pa_nil st_BinOp) st_Name)))))))), ?_⟩
    have p18 : CPow 10 18 := ⟨by decide, by decide, by decide⟩
    have n0 : 0 ≤ c % 1000000007 := Int.emod_nonneg _ (by decide)
    have n1 : c % 1000000007 < 4294967296 := Int.lt_trans (Int.emod_lt_of_pos _ (by decide)) (by decide)
    refine ⟨_, rfl, _, _, rfl, rfl, (by show (0 : Int) < 2; decide), rfl, _, rfl, ?_⟩
    refine ite2 (fun _ => ?_) (fun _ => ?_)
    · refine ⟨_, rfl, _, _, rfl, rfl, p18, _, _, rfl, rfl, .inl ⟨by decide, by decide⟩, _, _, rfl, rfl, _, rfl, ?_⟩
      refine ite2 (fun _ => ?_) (fun _ => ?_)
      · exact ⟨_, rfl, _, _, rfl, rfl, ⟨by decide, by decide⟩, _, _, rfl, rfl, p18, _, _, rfl, rfl, k _⟩
      · refine ⟨_, rfl, _, _, rfl, rfl, (by show (0 : Int) < 1000000007; decide), ?_⟩
        refine ⟨_, rfl, _, rfl, _, _, rfl, n0, n1, by omega, by omega, fun r1 _ _ => ?_⟩
        refine ⟨_, _, rfl, rfl, .inr ⟨by decide, by decide⟩, _, rfl, _, rfl, _, _, rfl, rfl, _, _, rfl, n0, n1, by omega, by omega, fun r2 _ _ => ⟨_, _, rfl, rfl, ?_⟩⟩
        refine ⟨_, rfl, _, _, rfl, rfl, .inr ⟨by decide, by decide⟩, _, rfl, _, rfl, _, _, rfl, rfl, _, _, rfl, n0, n1, by omega, by omega, fun r3 _ _ => ⟨_, _, rfl, rfl, k _⟩⟩
    · refine ⟨_, rfl, _, _, rfl, rfl, (by show (0 : Int) < 1000000007; decide), ?_⟩
      refine ⟨_, rfl, _, rfl, _, _, rfl, n0, n1, by omega, by omega, fun r1 _ _ => ?_⟩
      refine ⟨_, _, rfl, rfl, .inr ⟨by decide, by decide⟩, _, rfl, _, rfl, _, _, rfl, rfl, _, _, rfl, n0, n1, by omega, by omega, fun r2 _ _ => ⟨_, _, rfl, rfl, ?_⟩⟩
      refine ⟨_, rfl, _, _, rfl, rfl, .inr ⟨by decide, by decide⟩, _, rfl, _, rfl, _, _, rfl, rfl, _, _, rfl, n0, n1, by omega, by omega, fun r3 _ _ => ⟨_, _, rfl, rfl, k _⟩⟩
def sp__law_some : Sp := fun vs H Q _ => ∃ (n m : Int) (me : Str), vs = [.int n, .int m, .str me] ∧ Mn me ∧ 0 ≤ m ∧ m ≤ 3 ∧ ∀ (t : Addr) (z : Str) (r : Int), Sg z → (z.length : Int) ≤ m → (1 ≤ m → 1 ≤ z.length) → H t = none → Q (.ref t) (upd H t (.tup [.str z, .int r]))
theorem ok__law_some (T : Txt K mg f_NoName___init__ f_TooMany___init__ f_Broken___init__ f_is_printable f_are_unlike_signs f_Dialect___init__ f_Dialect_told f_dialect_of f_makes_dialect f_is_name f_signs_of_word f_truths_of_word f_dialect_in f__law_cell_at f__law_mixed f__law_number f__law_some f__law_menus f__law_told f__law_title f__law_row f__law_spoilt f__law_signs f__law_read f__law_asked f_law C_Dialect C_DialectError N_DialectError C_NoText N_NoText C_NoTable N_NoTable C_NoDialect N_NoDialect C_NoRow N_NoRow C_NoName N_NoName C_TooMany N_TooMany C_Broken N_Broken fd_NoName___init__ fd_TooMany___init__ fd_Broken___init__ fd_is_printable fd_are_unlike_signs fd_Dialect___init__ fd_Dialect_told fd_dialect_of fd_makes_dialect fd_is_name fd_signs_of_word fd_truths_of_word fd_dialect_in fd__law_cell_at fd__law_mixed fd__law_number fd__law_some fd__law_menus fd__law_told fd__law_title fd__law_row fd__law_spoilt fd__law_signs fd__law_read fd__law_asked fd_law z_SMALL_LETTERS z_PRINTABLE dt_Dialect___init__) : FnOk P w K mg base CX0 1 f__law_some fd__law_some ["_law_number_here", "_law_many", "_law_menu"] sp__law_some := by
  refine T.F__law_some.ok sc__law_some (fun vs H Q E h => ?_) (fun cdv A outer s H vs Q E hr h => ?_)
  · obtain ⟨n, m, me, rfl, _⟩ := h; rfl
  · have hu := hu_of hr
    have hu0 := hr.units0
    obtain ⟨n, m, me, rfl, ⟨hm1, hm2, hm3⟩, h0, h3, k⟩ := h
    have hml : me.length ≤ sizeLine := Nat.le_trans hm2 (by decide)
    refine ⟨_, (pss_cons (ps_set (i := 3) sc__law_some.nd rfl (by first | exact Or.inl rfl | exact Or.inr rfl) pe_str (hs := sw_Constant))
      (pss_cons (ps_for PassesOwn.never rfl (pi_range1 rfl T.no_range (pa_cons (pv 1) pa_nil st_Name)) (pg_name (i := 4) sc__law_some.nd rfl (by first | exact Or.inl rfl | exact Or.inr rfl))
      (pss_cons (ps_set (i := 5) sc__law_some.nd rfl (by first | exact Or.inl rfl | exact Or.inr rfl) (pe_ix ix_str (pv 2) (pe_op op_mod (pv 0) (pe_callB call_len_str rfl T.no_len (by decide +kernel) (pa_cons (pv 2) pa_nil st_Name))) (fun _ _ => rfl)) (hs := sw_Subscript))
      (pss_cons (ps_set (i := 0) sc__law_some.nd rfl (by first | exact Or.inl rfl | exact Or.inr rfl) (pe_op op_fdiv (pv 0) (pe_callB call_len_str rfl T.no_len (by decide +kernel) (pa_cons (pv 2) pa_nil st_Name))) (hs := sw_BinOp))
      (pss_one (ps_if (pt_cmpR op_notIn_str (pv 5) (pv 3) rfl) (pss_one (ps_set (i := 3) sc__law_some.nd rfl (by first | exact Or.inl rfl | exact Or.inr rfl) (pe_op op_add_str (pv 3) (pv 5)) (hs := sw_BinOp))) pss_nil)))))
      (pss_one (ps_ret (pe_tup (pa_cons (pv 3) (pa_cons (pv 0) pa_nil st_Name) st_Name)))))), ?_⟩
    refine ⟨_, rfl, m, rfl, by omega, by omega, ?_⟩
    refine for_range (fun i σ H2 => H2 = H ∧ ∃ (r : Int) (z : Str) (v1 v2 : Option V), σ = [some (.int r), some (.int m), some (.str me), some (.str z), v1, v2] ∧ Sg z ∧ z.length ≤ i ∧ (1 ≤ i → 1 ≤ z.length)) ⟨rfl, n, _, _, _, rfl, sg_nil, by decide, fun z => absurd z (by decide)⟩ ?_ ?_
    · rintro i σ H2 hi ⟨rfl, r, z, v1, v2, rfl, g, hz, hz1⟩
      have hlen : me.cps.toList.length = me.length := by rw [Array.length_toList]; rfl
      obtain ⟨c, ec, hc⟩ := at_int (xs := me.cps.toList) (Int.emod_nonneg r (show (me.length : Int) ≠ 0 by omega)) (by rw [hlen]; exact Int.emod_lt_of_pos r (by omega))
      refine ⟨_, rfl, _, rfl, _, rfl, me, rfl, hml, _, _, rfl, rfl, (by show (0 : Int) < me.length; omega), me, _, c, rfl, rfl, hml, ec, ?_⟩
      refine ⟨_, rfl, _, rfl, me, rfl, hml, _, _, rfl, rfl, ⟨by show (0 : Int) < me.length; omega, by show (me.length : Int) < 1073741824; omega⟩, ?_⟩
      refine ⟨_, rfl, _, rfl, _, _, rfl, rfl, _, rfl, ?_⟩
      refine ite2 (fun ha => ?_) (fun ha => ?_)
      · have e1 : (z ++ (⟨#[c]⟩ : Str)).length = z.length + 1 := app_len _ _
        refine ⟨_, rfl, _, rfl, _, _, rfl, rfl, ?_, rfl, _, _, _, _, rfl, sg_add g (hm3 c hc) ha, by rw [e1]; omega, fun _ => by rw [e1]; omega⟩
        exact Nat.le_trans (show z.length + 1 ≤ 5 by omega) (by decide)
      · refine ⟨rfl, _, _, _, _, rfl, g, by omega, fun _ => ?_⟩
        have hin : c ∈ z.cps.toList := Classical.byContradiction fun q => ha ((away_iff z c).mpr q)
        have := List.length_pos_of_mem hin
        rw [Array.length_toList] at this
        exact this
    · rintro σ H2 ⟨rfl, r, z, v1, v2, rfl, g, hz, hz1⟩
      exact ⟨_, rfl, _, rfl, (by show 2 ≤ sizeLine; decide), fun t ht => k t z r g (by omega) (fun q => hz1 (by omega)) ht⟩
def sp__law_menus : Sp := fun vs H Q _ => ∃ n : Int, vs = [.int n] ∧ ∀ (l : Addr) (m1 m2 m3 : Str), Mn m1 ∧ (n = 2 → m1 = EVS) → Mn m2 → Mn m3 → H l = none → Q (.ref l) (upd H l (.lst [.str m1, .str m2, .str m3]))
theorem ok__law_menus (T : Txt K mg f_NoName___init__ f_TooMany___init__ f_Broken___init__ f_is_printable f_are_unlike_signs f_Dialect___init__ f_Dialect_told f_dialect_of f_makes_dialect f_is_name f_signs_of_word f_truths_of_word f_dialect_in f__law_cell_at f__law_mixed f__law_number f__law_some f__law_menus f__law_told f__law_title f__law_row f__law_spoilt f__law_signs f__law_read f__law_asked f_law C_Dialect C_DialectError N_DialectError C_NoText N_NoText C_NoTable N_NoTable C_NoDialect N_NoDialect C_NoRow N_NoRow C_NoName N_NoName C_TooMany N_TooMany C_Broken N_Broken fd_NoName___init__ fd_TooMany___init__ fd_Broken___init__ fd_is_printable fd_are_unlike_signs fd_Dialect___init__ fd_Dialect_told fd_dialect_of fd_makes_dialect fd_is_name fd_signs_of_word fd_truths_of_word fd_dialect_in fd__law_cell_at fd__law_mixed fd__law_number fd__law_some fd__law_menus fd__law_told fd__law_title fd__law_row fd__law_spoilt fd__law_signs fd__law_read fd__law_asked fd_law z_SMALL_LETTERS z_PRINTABLE dt_Dialect___init__) : FnOk P w K mg base CX0 1 f__law_menus fd__law_menus ["_law_way"] sp__law_menus := by
  refine T.F__law_menus.ok sc__law_menus (fun vs H Q E h => ?_) (fun cdv A outer s H vs Q E hr h => ?_)
  · obtain ⟨n, rfl, _⟩ := h; rfl
  · have hu := hu_of hr
    have hu0 := hr.units0
    obtain ⟨n, rfl, k⟩ := h
    refine ⟨_, (pss_cons (ps_set (i := 1) sc__law_menus.nd rfl (by first | exact Or.inl rfl | exact Or.inr rfl) pe_str (hs := sw_Constant))
      (pss_cons (ps_if (pt_cmpR op_eq (pv 0) pe_int (nomark _)) (pss_one (ps_ret (pe_lst (pa_cons pe_str (pa_cons pe_str (pa_cons pe_str pa_nil st_Constant) st_Constant) st_Constant)))) pss_nil)
      (pss_cons (ps_if (pt_cmpR op_eq (pv 0) pe_int (nomark _)) (pss_one (ps_ret (pe_lst (pa_cons pe_str (pa_cons pe_str (pa_cons pe_str pa_nil st_Constant) st_Constant) st_Constant)))) pss_nil)
      (pss_one (ps_ret (pe_lst (pa_cons (pv 1) (pa_cons (pv 1) (pa_cons (pv 1) pa_nil st_Name) st_Name) st_Name))))))), ?_⟩
    refine ⟨_, rfl, rfl, _, rfl, ?_⟩
    refine rd2i (fun e => ?_) (fun e => ?_)
    · exact ⟨by decide, fun l hl => k l _ _ _ ⟨by decide +kernel, fun e2 => by omega⟩ (by decide +kernel) (by decide +kernel) hl⟩
    refine ⟨_, rfl, rfl, _, rfl, ?_⟩
    refine rd2i (fun e => ?_) (fun e => ?_)
    · exact ⟨by decide, fun l hl => k l _ _ _ ⟨by decide +kernel, fun e2 => by omega⟩ (by decide +kernel) (by decide +kernel) hl⟩
    exact ⟨_, rfl, _, rfl, _, rfl, by decide, fun l hl => k l _ _ _ ⟨by decide +kernel, fun _ => rfl⟩ (by decide +kernel) (by decide +kernel) hl⟩
def sp__law_told : Sp := fun vs H Q _ => ∃ c : Int, vs = [.int c] ∧ ∀ (t : Addr) (p q f : Str) (b1 b2 b3 b4 : Bool) (H' : Hp), Gd p q f → H t = none → H' t = some (.tup (seven p q f b1 b2 b3 b4)) → Same H H' → Q (.ref t) H'
theorem ok__law_told (T : Txt K mg f_NoName___init__ f_TooMany___init__ f_Broken___init__ f_is_printable f_are_unlike_signs f_Dialect___init__ f_Dialect_told f_dialect_of f_makes_dialect f_is_name f_signs_of_word f_truths_of_word f_dialect_in f__law_cell_at f__law_mixed f__law_number f__law_some f__law_menus f__law_told f__law_title f__law_row f__law_spoilt f__law_signs f__law_read f__law_asked f_law C_Dialect C_DialectError N_DialectError C_NoText N_NoText C_NoTable N_NoTable C_NoDialect N_NoDialect C_NoRow N_NoRow C_NoName N_NoName C_TooMany N_TooMany C_Broken N_Broken fd_NoName___init__ fd_TooMany___init__ fd_Broken___init__ fd_is_printable fd_are_unlike_signs fd_Dialect___init__ fd_Dialect_told fd_dialect_of fd_makes_dialect fd_is_name fd_signs_of_word fd_truths_of_word fd_dialect_in fd__law_cell_at fd__law_mixed fd__law_number fd__law_some fd__law_menus fd__law_told fd__law_title fd__law_row fd__law_spoilt fd__law_signs fd__law_read fd__law_asked fd_law z_SMALL_LETTERS z_PRINTABLE dt_Dialect___init__) : FnOk P w K mg base CX0 3 f__law_told fd__law_told ["_law_cell"] sp__law_told := by
  have G__law_menus : FnOk P w K mg base CX0 1 f__law_menus fd__law_menus ["_law_way"] sp__law_menus := ok__law_menus T
  have G__law_number : FnOk P w K mg base CX0 2 f__law_number fd__law_number ["_law_cell", "_law_salt"] sp__law_number := ok__law_number T
  have G__law_some : FnOk P w K mg base CX0 1 f__law_some fd__law_some ["_law_number_here", "_law_many", "_law_menu"] sp__law_some := ok__law_some T
  refine T.F__law_told.ok sc__law_told (fun vs H Q E h => ?_) (fun cdv A outer s H vs Q E hr h => ?_)
  · obtain ⟨c, rfl, _⟩ := h; rfl
  · have hu := hu_of hr
    have hu0 := hr.units0
    obtain ⟨c, rfl, k⟩ := h
    refine ⟨_, (pss_cons (ps_set (i := 1) sc__law_told.nd rfl (by first | exact Or.inl rfl | exact Or.inr rfl) (pe_call (k := 2) G__law_number (hr.mono (by decide)) rfl T.g__law_number T.F__law_number.kp T.b__law_number .nil pass0 (pa_cons (pv 0) (pa_cons pe_int pa_nil st_Constant) st_Name)) (hs := sw_Call))
      (pss_cons (ps_set (i := 2) sc__law_told.nd rfl (by first | exact Or.inl rfl | exact Or.inr rfl) (pe_op op_mod (pv 1) pe_int) (hs := sw_BinOp))
      (pss_cons (ps_set (i := 3) sc__law_told.nd rfl (by first | exact Or.inl rfl | exact Or.inr rfl) (pe_lst (pa_cons (pe_op op_add pe_int (pe_op op_mod (pe_op op_fdiv (pv 1) pe_int) pe_int)) (pa_cons (pe_op op_mod (pe_op op_fdiv (pv 1) pe_int) pe_int) (pa_cons (pe_op op_mod (pe_op op_fdiv (pv 1) pe_int) pe_int) pa_nil st_BinOp) st_BinOp) st_BinOp)) (hs := sw_List))
      (pss_cons (ps_set (i := 4) sc__law_told.nd rfl (by first | exact Or.inl rfl | exact Or.inr rfl) (pe_call (k := 1) G__law_menus (hr.mono (by decide)) rfl T.g__law_menus T.F__law_menus.kp T.b__law_menus .nil pass0 (pa_cons (pe_op op_mod (pe_op op_fdiv (pv 1) pe_int) pe_int) pa_nil st_BinOp)) (hs := sw_Call))
      (pss_cons (ps_asg (pe_call (k := 1) G__law_some (hr.mono (by decide)) rfl T.g__law_some T.F__law_some.kp T.b__law_some .nil pass0 (pa_cons (pe_op op_fdiv (pv 1) pe_int) (pa_cons (pe_ix (ixK_list K rfl) (pv 3) pe_int (fun _ _ => rfl)) (pa_cons (pe_ix (ixK_list K rfl) (pv 4) pe_int (fun _ _ => rfl)) pa_nil st_Subscript) st_Subscript) st_BinOp)) (pgK_tup K rfl 2 rfl (pgs_cons (pg_name (i := 5) sc__law_told.nd rfl (by first | exact Or.inl rfl | exact Or.inr rfl)) (pgs_cons (pg_name (i := 1) sc__law_told.nd rfl (by first | exact Or.inl rfl | exact Or.inr rfl)) pgs_nil))))
      (pss_cons (ps_asg (pe_call (k := 1) G__law_some (hr.mono (by decide)) rfl T.g__law_some T.F__law_some.kp T.b__law_some .nil pass0 (pa_cons (pv 1) (pa_cons (pe_ix (ixK_list K rfl) (pv 3) pe_int (fun _ _ => rfl)) (pa_cons (pe_ix (ixK_list K rfl) (pv 4) pe_int (fun _ _ => rfl)) pa_nil st_Subscript) st_Subscript) st_Name)) (pgK_tup K rfl 2 rfl (pgs_cons (pg_name (i := 6) sc__law_told.nd rfl (by first | exact Or.inl rfl | exact Or.inr rfl)) (pgs_cons (pg_name (i := 1) sc__law_told.nd rfl (by first | exact Or.inl rfl | exact Or.inr rfl)) pgs_nil))))
      (pss_cons (ps_asg (pe_call (k := 1) G__law_some (hr.mono (by decide)) rfl T.g__law_some T.F__law_some.kp T.b__law_some .nil pass0 (pa_cons (pv 1) (pa_cons (pe_ix (ixK_list K rfl) (pv 3) pe_int (fun _ _ => rfl)) (pa_cons (pe_ix (ixK_list K rfl) (pv 4) pe_int (fun _ _ => rfl)) pa_nil st_Subscript) st_Subscript) st_Name)) (pgK_tup K rfl 2 rfl (pgs_cons (pg_name (i := 7) sc__law_told.nd rfl (by first | exact Or.inl rfl | exact Or.inr rfl)) (pgs_cons (pg_name (i := 1) sc__law_told.nd rfl (by first | exact Or.inl rfl | exact Or.inr rfl)) pgs_nil))))
      (pss_cons (ps_set (i := 8) sc__law_told.nd rfl (by first | exact Or.inl rfl | exact Or.inr rfl) (pe_lst (pa_cons (pe_cmpR op_eq (pe_op op_mod (pv 2) pe_int) pe_int (nomark _)) (pa_cons (pe_cmpR op_eq (pe_op op_mod (pe_op op_fdiv (pv 2) pe_int) pe_int) pe_int (nomark _)) (pa_cons (pe_cmpR op_eq (pe_op op_mod (pe_op op_fdiv (pv 2) pe_int) pe_int) pe_int (nomark _)) (pa_cons (pe_cmpR op_eq (pe_op op_mod (pe_op op_fdiv (pv 2) pe_int) pe_int) pe_int (nomark _)) pa_nil st_Compare) st_Compare) st_Compare) st_Compare)) (hs := sw_List))
      (pss_one (ps_ret (pe_tup (pa_cons (pv 5) (pa_cons (pv 6) (pa_cons (pv 7) (pa_cons (pe_ix (ixK_list K rfl) (pv 8) pe_int (fun _ _ => rfl)) (pa_cons (pe_ix (ixK_list K rfl) (pv 8) pe_int (fun _ _ => rfl)) (pa_cons (pe_ix (ixK_list K rfl) (pv 8) pe_int (fun _ _ => rfl)) (pa_cons (pe_ix (ixK_list K rfl) (pv 8) pe_int (fun _ _ => rfl)) pa_nil st_Subscript) st_Subscript) st_Subscript) st_Subscript) st_Name) st_Name) st_Name)))))))))))), ?_⟩
    refine ⟨_, rfl, _, _, rfl, by decide, by decide, fun n => ?_⟩
    refine ⟨_, rfl, _, _, rfl, rfl, (by show (0 : Int) < 16; decide), ?_⟩
    refine ⟨_, rfl, _, _, rfl, rfl, ⟨by decide, by decide⟩, _, _, rfl, rfl, (by show (0 : Int) < 3; decide), _, _, rfl, rfl, _, rfl, _, _, rfl, rfl, ⟨by decide, by decide⟩, _, _, rfl, rfl, (by show (0 : Int) < 3; decide), _, rfl, _, _, rfl, rfl, ⟨by decide, by decide⟩, _, _, rfl, rfl, (by show (0 : Int) < 3; decide), (by show 3 ≤ sizeLine; decide), fun l hl => ?_⟩
    have m1 := Int.emod_nonneg (n / 16) (show (3 : Int) ≠ 0 by decide)
    have m1' := Int.emod_lt_of_pos (n / 16) (show (0 : Int) < 3 by decide)
    have m2 := Int.emod_nonneg (n / 48) (show (3 : Int) ≠ 0 by decide)
    have m2' := Int.emod_lt_of_pos (n / 48) (show (0 : Int) < 3 by decide)
    have m3 := Int.emod_nonneg (n / 144) (show (3 : Int) ≠ 0 by decide)
    have m3' := Int.emod_lt_of_pos (n / 144) (show (0 : Int) < 3 by decide)
    have h1 : (upd H l (.lst [.int (1 + n / 16 % 3), .int (n / 48 % 3), .int (n / 144 % 3)])) l = some (.lst [.int (1 + n / 16 % 3), .int (n / 48 % 3), .int (n / 144 % 3)]) := upd_same
    have s1 : Same H (upd H l (.lst [.int (1 + n / 16 % 3), .int (n / 48 % 3), .int (n / 144 % 3)])) := same_new hl
    generalize upd H l (.lst [.int (1 + n / 16 % 3), .int (n / 48 % 3), .int (n / 144 % 3)]) = H1 at h1 s1 ⊢
    refine ⟨_, rfl, _, _, rfl, rfl, ⟨by decide, by decide⟩, _, _, rfl, rfl, (by show (0 : Int) < 3; decide), _, rfl, fun l2 e1 e2 e3 g1 g2 g3 hl2 => ?_⟩
    have h2 : (upd H1 l2 (.lst [.str e1, .str e2, .str e3])) l2 = some (.lst [.str e1, .str e2, .str e3]) := upd_same
    have s2 : Same H1 (upd H1 l2 (.lst [.str e1, .str e2, .str e3])) := same_new hl2
    generalize upd H1 l2 (.lst [.str e1, .str e2, .str e3]) = H2 at h2 s2 ⊢
    have h12 := s2 _ _ h1
    have g1 := g1.1
    refine ⟨_, rfl, _, _, rfl, rfl, ⟨by decide, by decide⟩, _, rfl, l, _, _, _, rfl, rfl, SqL.of h12, rfl, _, rfl, l2, _, _, _, rfl, rfl, SqL.of h2, rfl, _, _, _, rfl, g1, by omega, by omega, fun t1 p r1 gp lp lp1 ht1 => ?_⟩
    refine ⟨t1, _, rfl, SqT.of upd_same, rfl, _, _, rfl, _, _, rfl, rfl, ?_⟩
    have s3 : Same H2 (upd H2 t1 (.tup [.str p, .int r1])) := same_new ht1
    generalize upd H2 t1 (.tup [.str p, .int r1]) = H3 at s3 ⊢
    refine ⟨_, rfl, _, rfl, l, _, _, _, rfl, rfl, SqL.of (s3 _ _ h12), rfl, _, rfl, l2, _, _, _, rfl, rfl, SqL.of (s3 _ _ h2), rfl, _, _, _, rfl, g2, by omega, by omega, fun t2 q r2 gq lq lq1 ht2 => ?_⟩
    refine ⟨t2, _, rfl, SqT.of upd_same, rfl, _, _, rfl, _, _, rfl, rfl, ?_⟩
    have s4 : Same H3 (upd H3 t2 (.tup [.str q, .int r2])) := same_new ht2
    generalize upd H3 t2 (.tup [.str q, .int r2]) = H4 at s4 ⊢
    refine ⟨_, rfl, _, rfl, l, _, _, _, rfl, rfl, SqL.of (s4 _ _ (s3 _ _ h12)), rfl, _, rfl, l2, _, _, _, rfl, rfl, SqL.of (s4 _ _ (s3 _ _ h2)), rfl, _, _, _, rfl, g3, by omega, by omega, fun t3 f r3 gf lf lf1 ht3 => ?_⟩
    refine ⟨t3, _, rfl, SqT.of upd_same, rfl, _, _, rfl, _, _, rfl, rfl, ?_⟩
    have s5 : Same H4 (upd H4 t3 (.tup [.str f, .int r3])) := same_new ht3
    generalize upd H4 t3 (.tup [.str f, .int r3]) = H5 at s5 ⊢
    refine ⟨_, rfl, _, _, rfl, rfl, (by show (0 : Int) < 2; decide), rfl, _, rfl, _, _, rfl, rfl, ⟨by decide, by decide⟩, _, _, rfl, rfl, (by show (0 : Int) < 2; decide), rfl, _, rfl, _, _, rfl, rfl, ⟨by decide, by decide⟩, _, _, rfl, rfl, (by show (0 : Int) < 2; decide), rfl, _, rfl, _, _, rfl, rfl, ⟨by decide, by decide⟩, _, _, rfl, rfl, (by show (0 : Int) < 2; decide), rfl, (by show 4 ≤ sizeLine; decide), fun l6 hl6 => ?_⟩
    have s6 := same_new (o := HO.lst [.bl (decide (V.int (n % 16 % 2) = V.int 1)), .bl (decide (V.int (n % 16 / 2 % 2) = V.int 1)), .bl (decide (V.int (n % 16 / 4 % 2) = V.int 1)), .bl (decide (V.int (n % 16 / 8 % 2) = V.int 1))]) hl6
    refine ⟨_, rfl, _, rfl, _, rfl, _, rfl, l6, _, _, _, rfl, rfl, SqL.of upd_same, rfl, _, rfl, l6, _, _, _, rfl, rfl, SqL.of upd_same, rfl, _, rfl, l6, _, _, _, rfl, rfl, SqL.of upd_same, rfl, _, rfl, l6, _, _, _, rfl, rfl, SqL.of upd_same, rfl, (by show 7 ≤ sizeLine; decide), fun t ht => ?_⟩
    have sall := ((((s1.trans s2).trans s3).trans s4).trans s5).trans s6
    exact k t p q f _ _ _ _ _ ⟨gp, gq, gf, lp1 (by omega), by omega, by omega, by omega⟩ (sall.free ht) upd_same (sall.trans (same_new ht))
def sp__law_title : Sp := fun vs H Q _ => ∃ c : Int, vs = [.int c] ∧ ∀ n : Str, isN (.str n) = true → Q (.str n) H
theorem ok__law_title (T : Txt K mg f_NoName___init__ f_TooMany___init__ f_Broken___init__ f_is_printable f_are_unlike_signs f_Dialect___init__ f_Dialect_told f_dialect_of f_makes_dialect f_is_name f_signs_of_word f_truths_of_word f_dialect_in f__law_cell_at f__law_mixed f__law_number f__law_some f__law_menus f__law_told f__law_title f__law_row f__law_spoilt f__law_signs f__law_read f__law_asked f_law C_Dialect C_DialectError N_DialectError C_NoText N_NoText C_NoTable N_NoTable C_NoDialect N_NoDialect C_NoRow N_NoRow C_NoName N_NoName C_TooMany N_TooMany C_Broken N_Broken fd_NoName___init__ fd_TooMany___init__ fd_Broken___init__ fd_is_printable fd_are_unlike_signs fd_Dialect___init__ fd_Dialect_told fd_dialect_of fd_makes_dialect fd_is_name fd_signs_of_word fd_truths_of_word fd_dialect_in fd__law_cell_at fd__law_mixed fd__law_number fd__law_some fd__law_menus fd__law_told fd__law_title fd__law_row fd__law_spoilt fd__law_signs fd__law_read fd__law_asked fd_law z_SMALL_LETTERS z_PRINTABLE dt_Dialect___init__) : FnOk P w K mg base CX0 3 f__law_title fd__law_title ["_law_cell"] sp__law_title := by
  have G__law_number : FnOk P w K mg base CX0 2 f__law_number fd__law_number ["_law_cell", "_law_salt"] sp__law_number := ok__law_number T
  refine T.F__law_title.ok sc__law_title (fun vs H Q E h => ?_) (fun cdv A outer s H vs Q E hr h => ?_)
  · obtain ⟨c, rfl, _⟩ := h; rfl
  · have hu := hu_of hr
    have hu0 := hr.units0
    obtain ⟨c, rfl, k⟩ := h
    refine ⟨_, (pss_cons (ps_set (i := 1) sc__law_title.nd rfl (by first | exact Or.inl rfl | exact Or.inr rfl) (pe_call (k := 2) G__law_number (hr.mono (by decide)) rfl T.g__law_number T.F__law_number.kp T.b__law_number .nil pass0 (pa_cons (pv 0) (pa_cons pe_int pa_nil st_Constant) st_Name)) (hs := sw_Call))
      (pss_cons (ps_set (i := 2) sc__law_title.nd rfl (by first | exact Or.inl rfl | exact Or.inr rfl) (pe_op op_add pe_int (pe_op op_mod (pv 1) pe_int)) (hs := sw_BinOp))
      (pss_cons (ps_set (i := 1) sc__law_title.nd rfl (by first | exact Or.inl rfl | exact Or.inr rfl) (pe_op op_fdiv (pv 1) pe_int) (hs := sw_BinOp))
      (pss_cons (ps_set (i := 3) sc__law_title.nd rfl (by first | exact Or.inl rfl | exact Or.inr rfl) pe_str (hs := sw_Constant))
      (pss_cons (ps_for PassesOwn.never rfl (pi_range1 rfl T.no_range (pa_cons (pv 2) pa_nil st_Name)) (pg_name (i := 4) sc__law_title.nd rfl (by first | exact Or.inl rfl | exact Or.inr rfl))
      (pss_cons (ps_set (i := 3) sc__law_title.nd rfl (by first | exact Or.inl rfl | exact Or.inr rfl) (pe_op op_add_str (pv 3) (pe_ix ix_str pe_str (pe_op op_mod (pv 1) pe_int) (fun _ _ => rfl))) (hs := sw_BinOp))
      (pss_one (ps_set (i := 1) sc__law_title.nd rfl (by first | exact Or.inl rfl | exact Or.inr rfl) (pe_op op_fdiv (pv 1) pe_int) (hs := sw_BinOp)))))
      (pss_one (ps_ret (pv 3)))))))), ?_⟩
    refine ⟨_, rfl, _, _, rfl, (by decide), (by decide), fun r => ⟨_, rfl, _, _, rfl, rfl, (by omega), _, _, rfl, rfl, _, rfl, _, _, rfl, rfl, ⟨(by decide), (by decide)⟩, _, rfl, _, rfl, (by omega), (by omega), ?_⟩⟩
    have m1 := Int.emod_nonneg r (show (8 : Int) ≠ 0 by decide)
    have m2 := Int.emod_lt_of_pos r (show (0 : Int) < 8 by decide)
    refine for_range (lo := 0) (n := (1 + r % 8).toNat) (fun i σ H2 => H2 = H ∧ ∃ (m : Int) (z : Str) (v : Option V), σ = [some (.int c), some (.int m), some (.int (1 + r % 8)), some (.str z), v] ∧ z.length = i ∧ ∀ d ∈ z.cps.toList, smallc d = true) ⟨rfl, _, _, _, rfl, (by decide +kernel), (by rw [show (Str.ofString "").cps.toList = [] from by decide +kernel]; intro d hd; cases hd)⟩ ?_ ?_
    · rintro i σ H2 hi ⟨rfl, m, z, v, rfl, hz, hs⟩
      have n1 := Int.emod_nonneg m (show (26 : Int) ≠ 0 by decide)
      have n2 := Int.emod_lt_of_pos m (show (0 : Int) < 26 by decide)
      obtain ⟨d, hd, hm⟩ := at_int (xs := (Str.ofString "abcdefghijklmnopqrstuvwxyz").cps.toList) n1 (by rw [small_list]; simpa using n2)
      have hsd : smallc d = true := by
        rw [small_list] at hm
        obtain ⟨j, hj, rfl⟩ := List.mem_map.mp hm
        have := List.mem_range.mp hj
        exact decide_eq_true ⟨by omega, by omega⟩
      have hlz : z.length + (sg d).length ≤ sizeLine := by
        rw [hz, show (sg d).length = 1 from rfl]
        exact Nat.le_trans (show i + 1 ≤ 100 by omega) (by decide)
      dsimp only [gName]
      refine ⟨_, rfl, _, rfl, _, _, rfl, rfl, (by omega), _, _, _, rfl, rfl, (show (Str.ofString "abcdefghijklmnopqrstuvwxyz").length ≤ sizeLine by decide +kernel), hd, _, _, rfl, rfl, hlz, _, rfl, _, _, rfl, rfl, ⟨(by decide), (by decide)⟩, rfl, _, _, _, rfl, ?_, ?_⟩
      · rw [app_len, hz]; rfl
      · intro d' hd'
        rw [app_list] at hd'
        rcases List.mem_append.mp hd' with h | h
        · exact hs d' h
        · rw [List.mem_singleton.mp h]; exact hsd
    · rintro σ H2 ⟨rfl, m, z, v, rfl, hz, hs⟩
      refine ⟨_, rfl, k _ ?_⟩
      show (decide _ && _) = true
      rw [decide_eq_true (show 1 ≤ z.length ∧ z.length ≤ 8 by omega), List.all_eq_true.mpr hs]; rfl
def sp__law_row (K : PySem.W.Frag) : Sp := fun vs H Q _ => ∃ (n : Str) (t : Addr) (p q f : Str) (b1 b2 b3 b4 : Bool), vs = [.str n, .ref t] ∧ H t = some (.tup (seven p q f b1 b2 b3 b4)) ∧ Gd p q f ∧ n.length ≤ 8 ∧ ∀ H', Same H H' → Q (.str (rowW n p q f b1 b2 b3 b4)) H'
theorem ok__law_row (T : Txt K mg f_NoName___init__ f_TooMany___init__ f_Broken___init__ f_is_printable f_are_unlike_signs f_Dialect___init__ f_Dialect_told f_dialect_of f_makes_dialect f_is_name f_signs_of_word f_truths_of_word f_dialect_in f__law_cell_at f__law_mixed f__law_number f__law_some f__law_menus f__law_told f__law_title f__law_row f__law_spoilt f__law_signs f__law_read f__law_asked f_law C_Dialect C_DialectError N_DialectError C_NoText N_NoText C_NoTable N_NoTable C_NoDialect N_NoDialect C_NoRow N_NoRow C_NoName N_NoName C_TooMany N_TooMany C_Broken N_Broken fd_NoName___init__ fd_TooMany___init__ fd_Broken___init__ fd_is_printable fd_are_unlike_signs fd_Dialect___init__ fd_Dialect_told fd_dialect_of fd_makes_dialect fd_is_name fd_signs_of_word fd_truths_of_word fd_dialect_in fd__law_cell_at fd__law_mixed fd__law_number fd__law_some fd__law_menus fd__law_told fd__law_title fd__law_row fd__law_spoilt fd__law_signs fd__law_read fd__law_asked fd_law z_SMALL_LETTERS z_PRINTABLE dt_Dialect___init__) : FnOk P w K mg base CX0 2 f__law_row fd__law_row ["_law_name", "_law_told_here"] (sp__law_row K) := by
  have G__law_menus : FnOk P w K mg base CX0 1 f__law_menus fd__law_menus ["_law_way"] sp__law_menus := ok__law_menus T
  refine T.F__law_row.ok sc__law_row (fun vs H Q E h => ?_) (fun cdv A outer s H vs Q E hr h => ?_)
  · obtain ⟨n, t, p, q, f, b1, b2, b3, b4, rfl, _⟩ := h; rfl
  · have hu := hu_of hr
    have hu0 := hr.units0
    obtain ⟨n, t, p, q, f, b1, b2, b3, b4, rfl, ht, g, hn8, k⟩ := h
    have hp3 : ∀ z ∈ [p, q, f], (∀ c ∈ z.cps.toList, Pn c) ∧ z.length ≤ 3 := by
      intro z hz
      have a1 := g.p3; have a2 := g.q2; have a3 := g.f2
      simp only [List.mem_cons, List.not_mem_nil, or_false] at hz
      rcases hz with rfl | rfl | rfl
      · exact ⟨g.gp.pr, by omega⟩
      · exact ⟨g.gq.pr, by omega⟩
      · exact ⟨g.gf.pr, by omega⟩
    refine ⟨_, (pss_cons (ps_set (i := 2) sc__law_row.nd rfl (by first | exact Or.inl rfl | exact Or.inr rfl) (pe_ix (ixK_list K rfl) (pe_call (k := 1) G__law_menus (hr.mono (by decide)) rfl T.g__law_menus T.F__law_menus.kp T.b__law_menus .nil pass0 (pa_cons pe_int pa_nil st_Constant)) pe_int (fun _ _ => rfl)) (hs := sw_Subscript))
      (pss_cons (ps_set (i := 3) sc__law_row.nd rfl (by first | exact Or.inl rfl | exact Or.inr rfl) (pe_lst (pa_cons pe_str (pa_cons (pv 0) pa_nil st_Name) st_Constant)) (hs := sw_List))
      (pss_cons (ps_for PassesOwn.never rfl (piK_tup K rfl (pe_slice (slK_tup K rfl) (pv 1) po_none (po_some pe_int))) (pg_name (i := 4) sc__law_row.nd rfl (by first | exact Or.inl rfl | exact Or.inr rfl))
      (pss_cons (ps_set (i := 5) sc__law_row.nd rfl (by first | exact Or.inl rfl | exact Or.inr rfl) (pe_lst pa_nil) (hs := sw_List))
      (pss_cons (ps_for PassesOwn.never rfl (pi_str (pv 4)) (pg_name (i := 6) sc__law_row.nd rfl (by first | exact Or.inl rfl | exact Or.inr rfl))
      (pss_cons (ps_set (i := 7) sc__law_row.nd rfl (by first | exact Or.inl rfl | exact Or.inr rfl) (peK_bm K rfl PySem.F.plainAttrs_str PySem.F.slot_str_index PySem.F.type_str_index mt_index (pv 2) (pa_cons (pv 6) pa_nil st_Name)) (hs := sw_Call))
      (pss_one (ps_expr (peK_bm K rfl PySem.F.plainAttrs_list PySem.F.slot_list_append PySem.F.type_list_append mt_append (pv 5) (pa_cons (pe_callTy call_str_int rfl T.no_str (by decide +kernel) (pa_cons (pe_ix (ixK_list K rfl) (pe_lst (pa_cons (pe_op op_add pe_int (pv 7)) (pa_cons (pe_op op_add pe_int (pv 7)) pa_nil st_BinOp) st_BinOp)) (pe_callTy call_int1 rfl T.no_int (by decide +kernel) (pa_cons (pe_cmpR op_gt (pv 7) pe_int (nomark _)) pa_nil st_Compare)) (fun _ _ => rfl)) pa_nil st_Subscript)) pa_nil st_Call))))))
      (pss_cons (ps_expr (peK_bm K rfl PySem.F.plainAttrs_list PySem.F.slot_list_append PySem.F.type_list_append mt_append (pv 3) (pa_cons (peK_bm K rfl PySem.F.plainAttrs_str PySem.F.slot_str_join PySem.F.type_str_join (mtK_join K rfl) pe_str (pa_cons (pv 5) pa_nil st_Name)) pa_nil st_Call)))
      (pss_one (ps_if (pt_cmpR op_eq (pv 4) pe_str (nomark _)) (pss_one (ps_asg pe_str (pg_sub (pv 3) (pe_un un_neg pe_int) set_list))) pss_nil))))))
      (pss_one (ps_ret (peK_bm K rfl PySem.F.plainAttrs_str PySem.F.slot_str_join PySem.F.type_str_join (mtK_join K rfl) pe_str (pa_cons (pe_op op_cat (pv 3) (pe_lst (pa_cons (peK_bm K rfl PySem.F.plainAttrs_str PySem.F.slot_str_join PySem.F.type_str_join (mtK_join K rfl) pe_str (pa_cons (pe_comp rfl (show CompScope ["_law_name", "_law_told_here", "_law_every", "_law_words", "_law_some_here", "_law_numbers", "_law_sign", "_law_at"] (defScope s__law_row) ["_law_truth"] 1 [] _ from ⟨rfl, by decide +kernel, by decide +kernel, by decide +kernel, by decide +kernel, rfl, rfl, by decide +kernel⟩) (piK_tup K rfl (pe_slice (slK_tup K rfl) (pv 1) (po_some pe_int) po_none)) (fun _ _ _ _ => (pg_name (i := 0) (show (["_law_truth"] : List Str).Nodup by decide +kernel) rfl (by first | exact Or.inl rfl | exact Or.inr rfl))) (fun _ _ _ _ => pif_nil) (fun _ _ _ _ => (pe_callTy call_str_int rfl T.no_str (by decide +kernel) (pa_cons (pe_callTy call_int1 rfl T.no_int (by decide +kernel) (pa_cons (pv 0) pa_nil st_Name)) pa_nil st_Call)))) pa_nil st_ListComp)) pa_nil st_Call))) pa_nil st_BinOp))))))), ?_⟩
    refine ⟨_, rfl, fun l0 m1 m2 m3 hm1 hm2 hm3 hl0 => ⟨_, _, _, _, rfl, rfl, SqL.of upd_same, rfl, _, rfl, (by show (2 : Nat) ≤ sizeLine; decide), ?_⟩⟩
    have hm1 := hm1.2 rfl
    subst hm1
    (have s1 := same_new (o := HO.lst [V.str EVS, V.str m2, V.str m3]) hl0; have q1 := upd_same (H := H) (a := l0) (o := HO.lst [V.str EVS, V.str m2, V.str m3]); generalize upd H l0 (HO.lst [V.str EVS, V.str m2, V.str m3]) = H1 at s1 q1 ⊢)
    refine fun l2 hl2 => ⟨_, rfl, _, rfl, _, _, rfl, SqT.of (same_new hl2 _ _ (s1 _ _ ht)), ns03, fun t3 ht3 => ⟨_, rfl, ⟨_, SqT.of upd_same⟩, ?_⟩⟩
    have e3 : cutV (seven p q f b1 b2 b3 b4) none (some 3) = [p, q, f].map V.str := rfl
    rw [e3]
    (have s2 := same_new (o := HO.lst [V.str (Str.ofString "dialect"), V.str n]) hl2; have q2 := upd_same (H := H1) (a := l2) (o := HO.lst [V.str (Str.ofString "dialect"), V.str n]); generalize upd H1 l2 (HO.lst [V.str (Str.ofString "dialect"), V.str n]) = H2 at s2 q2 ht3 ⊢; have s3 := same_new (o := HO.tup (List.map V.str [p, q, f])) ht3; have q3 := upd_same (H := H2) (a := t3) (o := HO.tup (List.map V.str [p, q, f])); generalize upd H2 t3 (HO.tup (List.map V.str [p, q, f])) = H3 at s3 q3 ⊢)
    have hl2H := s1.free hl2
    refine for_tup (K := K) (a := t3) (xs := [p, q, f].map V.str) (fun i σ J => Same H J ∧ J l2 = some (.lst ([.str (Str.ofString "dialect"), .str n] ++ ([p, q, f].take i).map fun z => V.str (wordS z))) ∧ J t3 = some (.tup ([p, q, f].map V.str)) ∧ ∃ v4 v5 v6 v7, σ = [some (.str n), some (.ref t), some (.str EVS), some (.ref l2), v4, v5, v6, v7]) ⟨(s1.trans s2).trans s3, s3 _ _ q2, q3, _, _, _, _, rfl⟩ (fun i σ J _ h => SqT.of h.2.2.1) ?_ ?_
    · rintro i y σ J hi ⟨sJ, jl, jt, v4, v5, v6, v7, rfl⟩
      rw [List.getElem?_map] at hi
      obtain ⟨z, hi2, rfl⟩ := Option.map_eq_some_iff.mp hi
      have hil : i < 3 := (List.getElem?_eq_some_iff.mp hi2).1
      obtain ⟨hz1, hz2⟩ := hp3 z (List.mem_of_getElem? hi2)
      have hsz : z.cps.toList.length = z.length := by rw [Array.length_toList]; rfl
      dsimp only [gName]
      refine ⟨(by decide), fun l5 hl5 => ⟨_, rfl, _, rfl, ?_⟩⟩
      have n25 : l2 ≠ l5 := ne_of_none jl hl5
      refine for_str (z := z) (fun j σ J2 => Same J J2 ∧ J2 l5 = some (.lst (((z.cps.toList.take j).map numS).map V.str)) ∧ ∃ v6 v7, σ = [some (.str n), some (.ref t), some (.str EVS), some (.ref l2), some (.str z), some (.ref l5), v6, v7]) ⟨same_new hl5, upd_same, _, _, rfl⟩ ?_ ?_
      · rintro j c σ J2 hj ⟨sj, jl5, v6, v7, rfl⟩
        have hjl : j < z.cps.toList.length := (List.getElem?_eq_some_iff.mp hj).1
        obtain ⟨f1, f2⟩ := find_ev c (hz1 c (List.mem_of_getElem? hj))
        have hpc := hz1 c (List.mem_of_getElem? hj)
        have hb : ((c : Int)).natAbs.log2 < 1920 := by
          rw [Int.natAbs_natCast]
          have := hpc.2.1; have := hpc.1
          exact (Nat.log2_lt (by omega)).mpr (Nat.lt_of_lt_of_le (show c < 2 ^ 7 by omega) (Nat.pow_le_pow_right (by decide) (by decide)))
        have hle : (((z.cps.toList.take j).map numS).map V.str).length < sizeLine := by
          rw [List.length_map, List.length_map, List.length_take]
          exact Nat.lt_of_le_of_lt (show min j z.cps.toList.length ≤ 8 by omega) (by decide)
        have hts := take_snoc hj
        dsimp only [gName]
        refine ⟨_, rfl, rfl, _, rfl, _, _, rfl, rfl, f1, _, rfl, .inl ⟨rfl, ⟨_, SqL.of jl5⟩⟩, _, rfl, _, _, rfl, rfl, _, rfl, _, _, rfl, rfl, (by show (2 : Nat) ≤ sizeLine; decide), fun l6 hl6 => ⟨_, rfl, _, _, rfl, rfl, .inr (⟨_, rfl, ?_⟩)⟩⟩
        generalize Txt.find EVS (sg c) = at1 at f1 f2 ⊢
        have e6 : atI [V.int (32 + at1), V.int (33 + at1)] (if decide (4 < at1) = true then 1 else 0) = some (.int c) := by
          by_cases h4 : 4 < at1
          · rw [decide_eq_true h4, if_pos rfl, ← f2, if_pos h4]; rfl
          · rw [decide_eq_false h4, if_neg (by decide), ← f2, if_neg h4]; rfl
        (have s3' := same_new (o := HO.lst [(fun i j => V.int (i + j)) 32 at1, (fun i j => V.int (i + j)) 33 at1]) hl6; have q3' := upd_same (H := J2) (a := l6) (o := HO.lst [(fun i j => V.int (i + j)) 32 at1, (fun i j => V.int (i + j)) 33 at1]); generalize upd J2 l6 (HO.lst [(fun i j => V.int (i + j)) 32 at1, (fun i j => V.int (i + j)) 33 at1]) = J3 at s3' q3' ⊢)
        refine ⟨_, _, _, _, rfl, rfl, SqL.of q3', e6, _, rfl, hb, _, _, _, rfl, rfl, (s3' _ _ jl5), hle, (same_set hl5 (sj.trans s3')), ?_, ?_⟩
        · rw [hts, List.map_append, List.map_append]
          exact upd_same
        · exact ⟨_, _, rfl⟩
      · rintro σ J2 ⟨sj, jl5, v6, v7, rfl⟩
        rw [List.take_of_length_le (Nat.le_refl _)] at jl5
        have jl2 := sj _ _ jl
        have jt2 := sj _ _ jt
        have bj : ((z.cps.toList.map numS).map fun x => x.length).sum + (z.cps.toList.map numS).length * (Str.ofString "+").length ≤ 16777216 := by
          have hs := sum_le (zs := z.cps.toList.map numS) (m := 3) fun y hy => by
            obtain ⟨c, hc, rfl⟩ := List.mem_map.mp hy
            have := (hz1 c hc).2.1
            exact (num_all c (List.mem_range.mpr (by omega))).2.2.2.2.1
          have l1 : (Str.ofString "+").length = 1 := by decide +kernel
          rw [List.length_map, hsz] at hs
          rw [l1, List.length_map, hsz]
          exact Nat.le_trans (show _ ≤ 12 by omega) (by decide)
        have bw : ([V.str (Str.ofString "dialect"), .str n] ++ ([p, q, f].take i).map fun z => V.str (wordS z)).length < sizeLine := by
          rw [List.length_append, List.length_map, List.length_take]
          exact Nat.lt_of_le_of_lt (show _ ≤ 2 + 3 from Nat.add_le_add (Nat.le_refl 2) (Nat.le_trans (Nat.min_le_left _ _) (by omega))) (by decide)
        have nt2 : t3 ≠ l2 := fun e => by rw [e, jl2] at jt2; cases jt2
        have hts : ([p, q, f].take (i + 1)).map (fun z => V.str (wordS z)) = ([p, q, f].take i).map (fun z => V.str (wordS z)) ++ [V.str (wordS z)] := by
          rw [List.take_add_one, hi2, List.map_append]; rfl
        have bl : (([V.str (Str.ofString "dialect"), .str n] ++ ([p, q, f].take i).map fun z => V.str (wordS z))).length = 2 + i := by
          rw [List.length_append, List.length_map, List.length_take]
          show 2 + min i 3 = 2 + i
          omega
        refine ⟨_, rfl, .inl ⟨rfl, ⟨_, SqL.of jl2⟩⟩, rfl, _, rfl, _, _, _, rfl, rfl, SqL.of jl5, bj, _, _, _, rfl, rfl, jl2, bw, _, rfl, rfl, _, rfl, ?_⟩
        refine rd2s (fun e => ?_) (fun e => ?_)
        · have ei : ixN (([V.str (Str.ofString "dialect"), .str n] ++ ([p, q, f].take i).map fun z => V.str (wordS z)) ++ [V.str (Txt.join (Str.ofString "+") (z.cps.toList.map numS))]).length (-1) = some (2 + i) := by
            rw [List.length_append, bl]
            show (if (0 : Int) ≤ -1 then _ else if -(((2 + i + 1 : Nat)) : Int) ≤ -1 then some (-1 + (((2 + i + 1 : Nat)) : Int)).toNat else none) = _
            rw [if_neg (by decide), if_pos (by omega)]
            congr 1
            omega
          refine ⟨_, rfl, _, rfl, _, _, _, _, rfl, rfl, upd_same, ei, (same_set hl2H (same_set hl2H (sJ.trans sj))), ?_, ?_, ?_⟩
          · rw [hts, ← List.append_assoc]
            rw [show (2 + i) = (([V.str (Str.ofString "dialect"), .str n] ++ ([p, q, f].take i).map fun z => V.str (wordS z))).length from bl.symm]
            rw [List.set_append_right _ _ (Nat.le_refl _), Nat.sub_self, show wordS z = Str.ofString "-" from if_pos (by rw [e]; decide +kernel)]
            exact upd_same
          · rw [upd_ne nt2, upd_ne nt2]; exact jt2
          · exact ⟨_, _, _, _, rfl⟩
        · have ew : wordS z = Txt.join (Str.ofString "+") (z.cps.toList.map numS) := if_neg fun q => e (em_of q)
          refine ⟨(same_set hl2H (sJ.trans sj)), ?_, ?_, ?_⟩
          · rw [hts, ← List.append_assoc, ew]; exact upd_same
          · rw [upd_ne nt2]; exact jt2
          · exact ⟨_, _, _, _, rfl⟩
    · rintro σ J ⟨sJ, jl, jt, v4, v5, v6, v7, rfl⟩
      have jl : J l2 = some (.lst [.str (Str.ofString "dialect"), .str n, .str (wordS p), .str (wordS q), .str (wordS f)]) := jl
      refine ⟨rfl, _, rfl, rfl, _, rfl, _, rfl, _, _, rfl, SqT.of (sJ _ _ ht), ns37, fun t8 ht8 => ⟨_, rfl, ⟨_, SqT.of upd_same⟩, fun D hD => ?_⟩⟩
      have e4 : cutV (seven p q f b1 b2 b3 b4) (some 3) none = [b1, b2, b3, b4].map V.bl := rfl
      rw [e4] at hD ⊢
      (have s2' := same_new (o := HO.tup (List.map V.bl [b1, b2, b3, b4])) ht8; have q2' := upd_same (H := J) (a := t8) (o := HO.tup (List.map V.bl [b1, b2, b3, b4])); generalize upd J t8 (HO.tup (List.map V.bl [b1, b2, b3, b4])) = J2 at s2' q2' hD ⊢)
      refine comp_tup (K := K) (a := t8) (xs := [b1, b2, b3, b4].map V.bl) (fun i ys τ J3 => (∃ v, τ = [v]) ∧ Same J2 J3 ∧ J3 D = some (.lst ys) ∧ ys = (([b1, b2, b3, b4].take i).map bitS).map V.str) ⟨⟨_, rfl⟩, same_new hD, upd_same, rfl⟩ (fun i ys τ H3 _ p => ⟨SqT.of (p.2.1 _ _ q2'), p.2.2.1⟩) ?_ ?_
      · rintro i y ys τ J3 hi ⟨⟨v, rfl⟩, s3', hl3, rfl⟩
        rw [List.getElem?_map] at hi
        obtain ⟨b, hi2, rfl⟩ := Option.map_eq_some_iff.mp hi
        have hil : i < 4 := (List.getElem?_eq_some_iff.mp hi2).1
        have hn5 : ((([b1, b2, b3, b4].take i).map bitS).map V.str).length < sizeLine := by
          rw [List.length_map, List.length_map, List.length_take]
          exact Nat.lt_of_le_of_lt (Nat.min_le_left _ _) (Nat.lt_trans hil (by decide))
        have hb : ((if b = true then 1 else 0 : Int)).natAbs.log2 < 1920 := by cases b <;> decide
        have et : Str.ofString (toString (if b = true then 1 else 0 : Int)) = bitS b := by cases b <;> decide +kernel
        refine gyes ?_
        refine ⟨_, rfl, .inr (⟨_, rfl, _, rfl, hb, hl3, hn5, ⟨_, rfl⟩, (same_set hD s3'), upd_same, ?_⟩)⟩
        rw [et, List.take_add_one, hi2, List.map_append, List.map_append]; rfl
      · rintro ys τ J3 ⟨⟨v, rfl⟩, s3', hl3, rfl⟩
        have hl3 : J3 D = some (.lst ([bitS b1, bitS b2, bitS b3, bitS b4].map V.str)) := hl3
        have bb : (([bitS b1, bitS b2, bitS b3, bitS b4]).map fun x => x.length).sum + [bitS b1, bitS b2, bitS b3, bitS b4].length * (Str.ofString "").length ≤ 16777216 := bit_sum b1 b2 b3 b4
        have jl4 := s3' _ _ (s2' _ _ jl)
        refine ⟨_, _, _, rfl, rfl, SqL.of hl3, bb, (by show (1 : Nat) ≤ sizeLine; decide), fun l9 hl9 => ⟨_, _, _, _, rfl, rfl, (same_new hl9 _ _ jl4), upd_same, (show (5 : Nat) + 1 ≤ sizeLine by decide), fun l10 hl10 => ?_⟩⟩
        (have sa := same_new (o := HO.lst [V.str (Txt.join (Str.ofString "") [bitS b1, bitS b2, bitS b3, bitS b4])]) hl9; have qa := upd_same (H := J3) (a := l9) (o := HO.lst [V.str (Txt.join (Str.ofString "") [bitS b1, bitS b2, bitS b3, bitS b4])]); generalize upd J3 l9 (HO.lst [V.str (Txt.join (Str.ofString "") [bitS b1, bitS b2, bitS b3, bitS b4])]) = Ha at sa qa hl10 ⊢; have sb := same_new (o := HO.lst ([V.str (Str.ofString "dialect"), V.str n, V.str (wordS p), V.str (wordS q), V.str (wordS f)] ++ [V.str (Txt.join (Str.ofString "") [bitS b1, bitS b2, bitS b3, bitS b4])])) hl10; have qb := upd_same (H := Ha) (a := l10) (o := HO.lst ([V.str (Str.ofString "dialect"), V.str n, V.str (wordS p), V.str (wordS q), V.str (wordS f)] ++ [V.str (Txt.join (Str.ofString "") [bitS b1, bitS b2, bitS b3, bitS b4])])); generalize upd Ha l10 (HO.lst ([V.str (Str.ofString "dialect"), V.str n, V.str (wordS p), V.str (wordS q), V.str (wordS f)] ++ [V.str (Txt.join (Str.ofString "") [bitS b1, bitS b2, bitS b3, bitS b4])])) = Hb at sb qb ⊢)
        have qb : Hb l10 = some (.lst ([Str.ofString "dialect", n, wordS p, wordS q, wordS f, truthS [b1, b2, b3, b4]].map V.str)) := qb
        refine ⟨_, _, _, rfl, rfl, SqL.of qb, ?_, k _ ((((sJ.trans s2').trans s3').trans sa).trans sb)⟩
        have w1 := wordS_len (hp3 p (by simp))
        have w2 := wordS_len (hp3 q (by simp))
        have w3 := wordS_len (hp3 f (by simp))
        have w4 := truthS_len b1 b2 b3 b4
        have w5 : (Str.ofString "dialect").length = 7 := by decide +kernel
        have w6 : (Str.ofString " ").length = 1 := by decide +kernel
        simp only [List.map_cons, List.map_nil, List.sum_cons, List.sum_nil, List.length_cons, List.length_nil, w5, w6]
        omega
def sp__law_spoilt (K : PySem.W.Frag) : Sp := fun vs H Q _ => ∃ (l : Addr) (ws : List Str) (c : Int) (n : Nat), vs = [.ref l, .int c] ∧ H l = some (.lst (ws.map V.str)) ∧ ws ≠ [] ∧ Wds ws n ∧ n ≤ 100 ∧ ∀ l' us H', H' l' = some (.lst (us.map V.str)) → Wds us (n + 1) → Same H H' → Q (.ref l') H'
theorem ok__law_spoilt (T : Txt K mg f_NoName___init__ f_TooMany___init__ f_Broken___init__ f_is_printable f_are_unlike_signs f_Dialect___init__ f_Dialect_told f_dialect_of f_makes_dialect f_is_name f_signs_of_word f_truths_of_word f_dialect_in f__law_cell_at f__law_mixed f__law_number f__law_some f__law_menus f__law_told f__law_title f__law_row f__law_spoilt f__law_signs f__law_read f__law_asked f_law C_Dialect C_DialectError N_DialectError C_NoText N_NoText C_NoTable N_NoTable C_NoDialect N_NoDialect C_NoRow N_NoRow C_NoName N_NoName C_TooMany N_TooMany C_Broken N_Broken fd_NoName___init__ fd_TooMany___init__ fd_Broken___init__ fd_is_printable fd_are_unlike_signs fd_Dialect___init__ fd_Dialect_told fd_dialect_of fd_makes_dialect fd_is_name fd_signs_of_word fd_truths_of_word fd_dialect_in fd__law_cell_at fd__law_mixed fd__law_number fd__law_some fd__law_menus fd__law_told fd__law_title fd__law_row fd__law_spoilt fd__law_signs fd__law_read fd__law_asked fd_law z_SMALL_LETTERS z_PRINTABLE dt_Dialect___init__) : FnOk P w K mg base CX0 3 f__law_spoilt fd__law_spoilt ["_law_words", "_law_cell"] (sp__law_spoilt K) := by
  have G__law_number : FnOk P w K mg base CX0 2 f__law_number fd__law_number ["_law_cell", "_law_salt"] sp__law_number := ok__law_number T
  refine T.F__law_spoilt.ok sc__law_spoilt (fun vs H Q E h => ?_) (fun cdv A outer s H vs Q E hr h => ?_)
  · obtain ⟨l, ws, c, n, rfl, _⟩ := h; rfl
  · have hu := hu_of hr
    have hu0 := hr.units0
    obtain ⟨l, ws, c, n, rfl, hl, hne, hw, hn, k⟩ := h
    obtain ⟨hw1, hw2⟩ := hw
    have hpos : 0 < ws.length := List.length_pos_iff.mpr hne
    refine' ⟨_, ?aa, ?bb⟩
    case aa =>
      refine' pss_cons ?s0 ?r0
      case s0 =>
        exact (ps_set (i := 2) sc__law_spoilt.nd rfl (by first | exact Or.inl rfl | exact Or.inr rfl) (pe_call (k := 2) G__law_number (hr.mono (by decide)) rfl T.g__law_number T.F__law_number.kp T.b__law_number .nil pass0 (pa_cons (pv 1) (pa_cons pe_int pa_nil st_Constant) st_Name)) (hs := sw_Call))
      case r0 =>
        refine' pss_cons ?s1 ?r1
        case s1 =>
          exact (ps_set (i := 3) sc__law_spoilt.nd rfl (by first | exact Or.inl rfl | exact Or.inr rfl) (pe_op op_mod (pv 2) pe_int) (hs := sw_BinOp))
        case r1 =>
          refine' pss_cons ?s2 ?r2
          case s2 =>
            exact (ps_set (i := 2) sc__law_spoilt.nd rfl (by first | exact Or.inl rfl | exact Or.inr rfl) (pe_op op_fdiv (pv 2) pe_int) (hs := sw_BinOp))
          case r2 =>
            refine' pss_cons ?s3 ?r3
            case s3 =>
              exact (ps_set (i := 4) sc__law_spoilt.nd rfl (by first | exact Or.inl rfl | exact Or.inr rfl) (pe_op op_mod (pv 2) (pe_callB (callK_len_seq K rfl) rfl T.no_len (by decide +kernel) (pa_cons (pv 0) pa_nil st_Name))) (hs := sw_BinOp))
            case r3 =>
              refine' pss_cons ?s4 ?r4
              case s4 =>
                exact (ps_set (i := 2) sc__law_spoilt.nd rfl (by first | exact Or.inl rfl | exact Or.inr rfl) (pe_op op_fdiv (pv 2) (pe_callB (callK_len_seq K rfl) rfl T.no_len (by decide +kernel) (pa_cons (pv 0) pa_nil st_Name))) (hs := sw_BinOp))
              case r4 =>
                refine' pss_cons ?s5 ?r5
                case s5 =>
                  refine' ps_if ?c6 ?b6 ?e6
                  case c6 => exact (pt_cmpR op_eq (pv 3) pe_int (nomark _))
                  case b6 =>
                    refine' pss_one ?s7
                    case s7 =>
                      exact (ps_ret (pe_op op_cat (pe_slice (slK_list K rfl) (pv 0) po_none (po_some (pv 4))) (pe_slice (slK_list K rfl) (pv 0) (po_some (pe_op op_add (pv 4) pe_int)) po_none)))
                  case e6 =>
                    exact pss_nil
                case r5 =>
                  refine' pss_cons ?s8 ?r8
                  case s8 =>
                    refine' ps_if ?c9 ?b9 ?e9
                    case c9 => exact (pt_cmpR op_eq (pv 3) pe_int (nomark _))
                    case b9 =>
                      refine' pss_one ?s10
                      case s10 =>
                        exact (ps_ret (pe_op op_cat (pe_op op_cat (pe_slice (slK_list K rfl) (pv 0) po_none (po_some (pv 4))) (pe_lst (pa_cons (pe_ix (ixK_list K rfl) (pv 0) (pv 4) (fun _ _ => rfl)) pa_nil st_Subscript))) (pe_slice (slK_list K rfl) (pv 0) (po_some (pv 4)) po_none)))
                    case e9 =>
                      exact pss_nil
                  case r8 =>
                    refine' pss_cons ?s11 ?r11
                    case s11 =>
                      refine' ps_set (i := 5) ?ha12 ?hb12 ?hc12 ?v12 ?hd12 ?he12
                      case ha12 => exact sc__law_spoilt.nd
                      case hb12 => rfl
                      case hc12 => exact (by first | exact Or.inl rfl | exact Or.inr rfl)
                      case hd12 => exact sw_List
                      case he12 => first | exact .inl rfl | exact .inr rfl | assumption
                      case v12 =>
                        refine' pe_lst ?a13
                        case a13 =>
                          exact (pa_cs (.cons rfl (.cons rfl (.cons rfl (.cons rfl (.cons rfl (.cons rfl (.cons rfl (.cons rfl (.cons rfl (.cons rfl (.cons rfl (.cons rfl (.cons rfl (.cons rfl .nil)))))))))))))))
                    case r11 =>
                      refine' pss_cons ?s14 ?r14
                      case s14 =>
                        refine' ps_set (i := 5) ?ha15 ?hb15 ?hc15 ?v15 ?hd15 ?he15
                        case ha15 => exact sc__law_spoilt.nd
                        case hb15 => rfl
                        case hc15 => exact (by first | exact Or.inl rfl | exact Or.inr rfl)
                        case hd15 => exact sw_BinOp
                        case he15 => first | exact .inl rfl | exact .inr rfl | assumption
                        case v15 =>
                          refine' pe_op op_cat ?a16 ?b16
                          case a16 =>
                            exact (pv 5)
                          case b16 =>
                            refine' pe_lst ?a17
                            case a17 =>
                              exact (pa_cs (.cons rfl (.cons rfl (.cons rfl (.cons rfl (.cons rfl (.cons rfl (.cons rfl (.cons rfl (.cons rfl (.cons rfl (.cons rfl (.cons rfl .nil)))))))))))))
                      case r14 =>
                        refine' pss_cons ?s18 ?r18
                        case s18 =>
                          exact (ps_set (i := 5) sc__law_spoilt.nd rfl (by first | exact Or.inl rfl | exact Or.inr rfl) (pe_op op_cat (pv 5) (pe_lst (pa_cons pe_str (pa_cons pe_str pa_nil st_Constant) st_Constant))) (hs := sw_BinOp))
                        case r18 =>
                          refine' pss_one ?s19
                          case s19 =>
                            exact (ps_ret (pe_op op_cat (pe_op op_cat (pe_slice (slK_list K rfl) (pv 0) po_none (po_some (pv 4))) (pe_lst (pa_cons (pe_ix (ixK_list K rfl) (pv 5) (pe_op op_mod (pv 2) (pe_callB (callK_len_seq K rfl) rfl T.no_len (by decide +kernel) (pa_cons (pv 5) pa_nil st_Name))) (fun _ _ => rfl)) pa_nil st_Subscript))) (pe_slice (slK_list K rfl) (pv 0) (po_some (pe_op op_add (pv 4) pe_int)) po_none)))
    case bb =>
      exact spoilt_read (fun c s H Q E h1 h2 k => ⟨c, s, rfl, h1, h2, k⟩) [Str.ofString "", Str.ofString "-", Str.ofString "44", Str.ofString "044", Str.ofString "37", Str.ofString "31", Str.ofString "127", Str.ofString "44+", Str.ofString "+44", Str.ofString "44+44", Str.ofString "44+59+124+58", Str.ofString "4 4", Str.ofString "x", Str.ofString "1 0"] [Str.ofString "101", Str.ofString "10100", Str.ofString "1012", Str.ofString "Dialect", Str.ofString "abcdefghi", Str.ofString "a1", Str.ofString "10", Str.ofString "32", Str.ofString "126", Str.ofString "-44", Str.ofString "44+39", Str.ofString "4_4"] (Str.ofString "4_4+59") (Str.ofString "1_1") (by decide +kernel) (by decide +kernel) (by decide +kernel) (by decide +kernel) (by decide) (by decide) hl hne hw1 hw2 hn k
def sp__law_signs (K : PySem.W.Frag) : Sp := fun vs H Q _ => ∃ (w : Str) (lo hi : Nat), vs = [.str w, .int lo, .int hi] ∧ w.length ≤ 1000 ∧ lo ≤ 1 ∧ ∀ v H', (∀ u, SowOk w u → v = if sgB u lo hi = true then u else .non) → Same H H' → Q v H'
theorem ok__law_signs (T : Txt K mg f_NoName___init__ f_TooMany___init__ f_Broken___init__ f_is_printable f_are_unlike_signs f_Dialect___init__ f_Dialect_told f_dialect_of f_makes_dialect f_is_name f_signs_of_word f_truths_of_word f_dialect_in f__law_cell_at f__law_mixed f__law_number f__law_some f__law_menus f__law_told f__law_title f__law_row f__law_spoilt f__law_signs f__law_read f__law_asked f_law C_Dialect C_DialectError N_DialectError C_NoText N_NoText C_NoTable N_NoTable C_NoDialect N_NoDialect C_NoRow N_NoRow C_NoName N_NoName C_TooMany N_TooMany C_Broken N_Broken fd_NoName___init__ fd_TooMany___init__ fd_Broken___init__ fd_is_printable fd_are_unlike_signs fd_Dialect___init__ fd_Dialect_told fd_dialect_of fd_makes_dialect fd_is_name fd_signs_of_word fd_truths_of_word fd_dialect_in fd__law_cell_at fd__law_mixed fd__law_number fd__law_some fd__law_menus fd__law_told fd__law_title fd__law_row fd__law_spoilt fd__law_signs fd__law_read fd__law_asked fd_law z_SMALL_LETTERS z_PRINTABLE dt_Dialect___init__) : FnOk P w K mg base CX0 2 f__law_signs fd__law_signs ["_law_word", "_law_least", "_law_most"] (sp__law_signs K) := by
  have G__law_menus : FnOk P w K mg base CX0 1 f__law_menus fd__law_menus ["_law_way"] sp__law_menus := ok__law_menus T
  refine T.F__law_signs.ok sc__law_signs (fun vs H Q E h => ?_) (fun cdv A outer s H vs Q E hr h => ?_)
  · obtain ⟨w, lo, hi, rfl, _⟩ := h; rfl
  · have hu := hu_of hr
    have hu0 := hr.units0
    obtain ⟨w, lo, hi, rfl, hw, hlo, k⟩ := h
    refine ⟨_, (pss_cons (ps_if (pt_cmpR op_eq (pv 0) pe_str (nomark _)) (pss_one (ps_ret (pe_ix (ixK_list K rfl) (pe_lst (pa_cons pe_non (pa_cons pe_str pa_nil st_Constant) st_Constant)) (pe_callTy call_int1 rfl T.no_int (by decide +kernel) (pa_cons (pe_cmpR op_eq (pv 1) pe_int (nomark _)) pa_nil st_Compare)) (fun _ _ => rfl)))) pss_nil)
      (pss_cons (ps_set (i := 3) sc__law_signs.nd rfl (by first | exact Or.inl rfl | exact Or.inr rfl) (pe_ix (ixK_list K rfl) (pe_call (k := 1) G__law_menus (hr.mono (by decide)) rfl T.g__law_menus T.F__law_menus.kp T.b__law_menus .nil pass0 (pa_cons pe_int pa_nil st_Constant)) pe_int (fun _ _ => rfl)) (hs := sw_Subscript))
      (pss_cons (ps_set (i := 4) sc__law_signs.nd rfl (by first | exact Or.inl rfl | exact Or.inr rfl) pe_str (hs := sw_Constant))
      (pss_cons (ps_for PassesOwn.never rfl (piK_list K rfl (peK_bm K rfl PySem.F.plainAttrs_str PySem.F.slot_str_split PySem.F.type_str_split mt_split (pv 0) (pa_cons pe_str pa_nil st_Constant))) (pg_name (i := 5) sc__law_signs.nd rfl (by first | exact Or.inl rfl | exact Or.inr rfl))
      (pss_cons (ps_setC (i := 6) rfl sc__law_signs.nd rfl rfl (show CompScope ["_law_word", "_law_least", "_law_most", "_law_every", "_law_some_here", "_law_part", "_law_signs_here"] (defScope s__law_signs) ["_law_k", "_law_every", "_law_part"] 1 [3, 5] _ from ⟨rfl, by decide +kernel, by decide +kernel, by decide +kernel, by decide +kernel, rfl, rfl, by decide +kernel⟩) (pi_range1 rfl T.no_range (pa_cons (pe_callB call_len_str rfl T.no_len (by decide +kernel) (pa_cons (pv 3) pa_nil st_Name)) pa_nil st_Call)) (fun _ _ _ _ => (pg_name (i := 0) (show (["_law_k", "_law_every", "_law_part"] : List Str).Nodup by decide +kernel) rfl (by first | exact Or.inl rfl | exact Or.inr rfl))) (fun _ _ _ _ => (pif_one (pt_cmpR op_eq (pv 2) (pe_callTy call_str_int rfl T.no_str (by decide +kernel) (pa_cons (pe_ix (ixK_list K rfl) (pe_lst (pa_cons (pe_op op_add pe_int (pv 0)) (pa_cons (pe_op op_add pe_int (pv 0)) pa_nil st_BinOp) st_BinOp)) (pe_callTy call_int1 rfl T.no_int (by decide +kernel) (pa_cons (pe_cmpR op_gt (pv 0) pe_int (nomark _)) pa_nil st_Compare)) (fun _ _ => rfl)) pa_nil st_Subscript)) (nomark _)))) (fun _ _ _ _ => (pe_ix ix_str (pv 1) (pv 0) (fun _ _ => rfl))))
      (pss_cons (ps_if (PW.pt (pw_or (pt_cmpR (op_eqL K rfl hu0) (pv 6) (pe_lst pa_nil) (nomark _)) (pw_or1 (pt_cmpR op_in_str (pe_ix (ixK_list K rfl) (pv 6) pe_int (fun _ _ => rfl)) (pv 4) rfl)))) (pss_one (ps_ret pe_non)) pss_nil)
      (pss_one (ps_set (i := 4) sc__law_signs.nd rfl (by first | exact Or.inl rfl | exact Or.inr rfl) (pe_op op_add_str (pv 4) (pe_ix (ixK_list K rfl) (pv 6) pe_int (fun _ _ => rfl))) (hs := sw_BinOp))))))
      (pss_cons (ps_if (pt_cmpR op_gt (pe_callB call_len_str rfl T.no_len (by decide +kernel) (pa_cons (pv 4) pa_nil st_Name)) (pv 2) (nomark _)) (pss_one (ps_ret pe_non)) pss_nil)
      (pss_one (ps_ret (pv 4)))))))), ?_⟩
    refine ⟨_, rfl, rfl, _, rfl, ?_⟩
    refine rd2s (fun e => ?_) (fun e => ?_)
    · subst e
      have fin : ∀ v, v = (if (lo : Int) = 0 then V.str (Str.ofString "") else .non) → ∀ u, SowOk (Str.ofString "-") u → v = if sgB u lo hi = true then u else .non := fun v ev u hu => by
        have e2 := sow_fun hu (.inl ⟨rfl, rfl⟩)
        subst e2
        rw [ev]
        have le : (Str.ofString "").length = 0 := by decide +kernel
        have lc : (Str.ofString "").cps.toList = [] := by decide +kernel
        by_cases h0 : (lo : Int) = 0
        · rw [if_pos h0, if_pos]
          exact decide_eq_true ⟨by omega, by omega, by rw [lc]; exact List.nodup_nil, by rw [lc]; intro c hc; cases hc⟩
        · rw [if_neg h0, if_neg]
          intro hs
          have := (of_decide_eq_true hs).1
          omega
      refine ⟨(by decide), fun l hl => ⟨_, rfl, rfl, .inr (⟨_, rfl, ?_⟩)⟩⟩
      by_cases h0 : (lo : Int) = 0
      · have e1 : atI [V.non, V.str (Str.ofString "")] (if decide (V.int (lo : Int) = V.int 0) = true then 1 else 0) = some (.str (Str.ofString "")) := by rw [h0, decide_eq_true rfl]; rfl
        refine ⟨_, _, _, _, rfl, rfl, SqL.of upd_same, e1, k _ _ ?_ (same_set hl (Same.refl _))⟩
        exact fin _ (by rw [if_pos h0])
      · have e1 : atI [V.non, V.str (Str.ofString "")] (if decide (V.int (lo : Int) = V.int 0) = true then 1 else 0) = some .non := by rw [decide_eq_false (fun q => h0 (V.int.inj q))]; rfl
        refine ⟨_, _, _, _, rfl, rfl, SqL.of upd_same, e1, k _ _ ?_ (same_set hl (Same.refl _))⟩
        exact fin _ (by rw [if_neg h0])
    refine ⟨_, rfl, fun l0 m1 m2 m3 hm1 hm2 hm3 hl0 => ⟨_, _, _, _, rfl, rfl, SqL.of upd_same, rfl, _, rfl, rfl, _, _, rfl, rfl, (show w.length ≤ 100000 by omega), fun ss hj hf hn l hl => ⟨_, rfl, ⟨_, SqL.of upd_same⟩, ?_⟩⟩⟩
    have hm1 := hm1.2 rfl
    subst hm1
    (have s1 := same_new (o := HO.lst [V.str EVS, V.str m2, V.str m3]) hl0; have q1 := upd_same (H := H) (a := l0) (o := HO.lst [V.str EVS, V.str m2, V.str m3]); generalize upd H l0 (HO.lst [V.str EVS, V.str m2, V.str m3]) = H1 at s1 q1 hl ⊢; have s2 := same_new (o := HO.lst (List.map V.str ss)) hl; have q2 := upd_same (H := H1) (a := l) (o := HO.lst (List.map V.str ss)); generalize upd H1 l (HO.lst (List.map V.str ss)) = H2 at s2 q2 ⊢)
    have hj : Str.join (sg 43) ss = w := hj
    have hf : ∀ p ∈ ss, 43 ∉ p.cps.toList := hf
    have hlen := join_count 43 ss
    rw [hj] at hlen
    have ow : SowOk w (sowV (sowM ss)) := .inr ⟨e, ss, hj, hf, hn, rfl⟩
    have fin : ∀ v, v = (if sgB (sowV (sowM ss)) lo hi = true then sowV (sowM ss) else .non) → ∀ u, SowOk w u → v = if sgB u lo hi = true then u else .non := fun v ev u hu => by
      rw [sow_fun hu ow]; exact ev
    refine for_list (K := K) (a := l) (xs := ss.map V.str) (fun i σ J => Same H2 J ∧ ∃ (cs : List Nat) (v5 v6 : Option V), sowM (ss.take i) = some cs ∧ cs.Nodup ∧ σ = [some (.str w), some (.int lo), some (.int hi), some (.str EVS), some (.str ⟨cs.toArray⟩), v5, v6]) ⟨Same.refl _, [], _, _, rfl, List.nodup_nil, rfl⟩ (fun i σ J _ h => SqL.of (h.1 _ _ q2)) ?_ ?_
    · rintro i x σ J hi2 ⟨sJ, cs, v5, v6, hm, hnd, rfl⟩
      rw [List.getElem?_map] at hi2
      obtain ⟨p, hi3, rfl⟩ := Option.map_eq_some_iff.mp hi2
      have hil : i < ss.length := (List.getElem?_eq_some_iff.mp hi3).1
      have hcl := sowM_len hm
      rw [List.length_take] at hcl
      have hts : ss.take (i + 1) = ss.take i ++ [p] := by rw [List.take_add_one, hi3]; rfl
      have es := sowM_snoc (ss.take i) p
      rw [hm, ← hts] at es
      have lE : EVS.length ≤ sizeLine := by decide +kernel
      have lE2 : EVS.length = 94 := by decide +kernel
      dsimp only [gName]
      refine ⟨_, rfl, _, rfl, lE, _, rfl, (by decide), (by decide), fun D hD => ?_⟩
      refine comp_range (fun j ys τ J3 => (∃ v, τ = [v, some (.str EVS), some (.str p)]) ∧ Same J J3 ∧ J3 D = some (.lst ys) ∧ ys = (fndL (PRN.take j) p).map fun c => V.str (sg c)) ⟨⟨_, rfl⟩, same_new hD, upd_same, rfl⟩ (fun j ys τ J3 _ q => q.2.2.1) ?_ ?_
      · rintro j ys τ J3 hj3 ⟨⟨v, rfl⟩, s3, hl3, rfl⟩
        have hj4 : j < 94 := by have : j < ((EVS.length : Nat) : Int).toNat := hj3; rw [lE2] at this; simpa using this
        have pa := prn_at j (List.mem_range.mpr hj4)
        generalize hc : (if 4 < j then 33 + j else 32 + j : Nat) = c at pa
        have hts3 : PRN.take (j + 1) = PRN.take j ++ [c] := take_snoc pa
        have hpc : Pn c := prn_iff.mp (List.mem_of_getElem? pa)
        have hb : ((c : Int)).natAbs.log2 < 1920 := by
          rw [Int.natAbs_natCast]
          have := hpc.2.1; have := hpc.1
          exact (Nat.log2_lt (by omega)).mpr (Nat.lt_of_lt_of_le (show c < 2 ^ 7 by omega) (Nat.pow_le_pow_right (by decide) (by decide)))
        have e6 : atI [V.int (32 + (0 + (j : Int))), V.int (33 + (0 + (j : Int)))] (if decide (4 < 0 + (j : Int)) = true then 1 else 0) = some (.int (c : Int)) := by
          by_cases h4 : 4 < j
          · rw [if_pos h4] at hc; rw [decide_eq_true (by omega), if_pos rfl, ← hc]
            show some (V.int (33 + (0 + (j : Int)))) = _
            congr 2; omega
          · rw [if_neg h4] at hc; rw [decide_eq_false (by omega), if_neg (by decide), ← hc]
            show some (V.int (32 + (0 + (j : Int)))) = _
            congr 2; omega
        have aE : atI EVS.cps.toList (0 + (j : Int)) = some c := by
          rw [show EVS.cps.toList = PRN from pr_list, Int.zero_add]; exact atI_nat pa
        dsimp only [gName]
        refine ⟨_, rfl, _, rfl, _, _, rfl, rfl, _, rfl, _, _, rfl, rfl, (by show (2 : Nat) ≤ sizeLine; decide), fun l6 hl6 => ⟨_, rfl, _, _, rfl, rfl, .inr (⟨_, rfl, _, _, _, _, rfl, rfl, SqL.of upd_same, e6, _, rfl, hb, rfl, _, rfl, ?_⟩)⟩⟩
        (have s4 := same_new (o := HO.lst [(fun i j => V.int (i + j)) 32 (0 + ↑j), (fun i j => V.int (i + j)) 33 (0 + ↑j)]) hl6; have q4 := upd_same (H := J3) (a := l6) (o := HO.lst [(fun i j => V.int (i + j)) 32 (0 + ↑j), (fun i j => V.int (i + j)) 33 (0 + ↑j)]); generalize upd J3 l6 (HO.lst [(fun i j => V.int (i + j)) 32 (0 + ↑j), (fun i j => V.int (i + j)) 33 (0 + ↑j)]) = J4 at s4 q4 ⊢)
        refine rd2s (fun e => ?_) (fun e => ?_)
        · have e : numS c = p := e.symm
          have ef : fndL (PRN.take (j + 1)) p = fndL (PRN.take j) p ++ [c] := by
            rw [hts3]; unfold fndL; rw [List.filter_append, List.filter_cons_of_pos (p := fun c => decide (numS c = p)) (decide_eq_true e)]; rfl
          have hl4 := s4 _ _ hl3
          refine ⟨_, rfl, _, rfl, _, _, _, rfl, rfl, lE, aE, hl4, ?_, ⟨_, rfl⟩, (same_set hD (s3.trans s4)), upd_same, ?_⟩
          · rw [List.length_map]
            exact Nat.lt_of_le_of_lt (Nat.le_trans (List.length_filter_le _ _) (List.length_take_le' _ _)) (by decide +kernel)
          · rw [ef, List.map_append]; rfl
        · have e : ¬ numS c = p := fun q => e q.symm
          have ef : fndL (PRN.take (j + 1)) p = fndL (PRN.take j) p := by
            rw [hts3]; unfold fndL; rw [List.filter_append, List.filter_cons_of_neg (p := fun c => decide (numS c = p)) (fun q => e (of_decide_eq_true q))]; exact List.append_nil _
          refine ⟨⟨_, rfl⟩, (s3.trans s4), (s4 _ _ hl3), ?_⟩
          rw [ef]
      · rintro ys τ J3 ⟨⟨v, rfl⟩, s3, hl3, rfl⟩
        rw [show (((EVS.length : Nat) : Int)).toNat = 94 from by rw [lE2]; rfl, List.take_of_length_le (by rw [prn_len]; exact Nat.le_refl _)] at hl3
        dsimp only [gName]
        have sh := sJ.trans s3
        have h94 : True := trivial
        have stop : ∀ (t : List Str), sowM (ss.take (i + 1)) = none → V.non = (if sgB (sowV (sowM ss)) lo hi = true then sowV (sowM ss) else .non) := fun _ hno => by
          have e3 : sowM ss = none := by rw [← List.take_append_drop (i + 1) ss]; exact sowM_stop hno
          rw [e3]; rfl
        cases ef : fndL PRN p with
        | nil =>
          rw [ef] at hl3 es
          refine ⟨_, rfl, (by decide), fun p2 hp2 => ⟨_, _, _, rfl, rfl, SqL.of (same_new hp2 _ _ hl3), SqL.of upd_same, _, rfl, iteT (iteT (k _ _ ?_ (same_set (((s1.trans s2).trans sh).free hp2) ((s1.trans s2).trans sh))))⟩⟩
          exact fin _ (stop [] es)
        | cons c r =>
          rw [ef] at hl3 es
          have hin : (!(Builtin.Str.occurrences (⟨cs.toArray⟩ : Str) (sg c) 0 (⟨cs.toArray⟩ : Str).length 1).isEmpty) = decide (c ∈ cs) := by
            have e : (!(Builtin.Str.occurrences (⟨cs.toArray⟩ : Str) (sg c) 0 (⟨cs.toArray⟩ : Str).length 1).isEmpty) = decide (c ∈ (⟨cs.toArray⟩ : Str).cps.toList) := StrLaws.found_one _ c
            rw [e]
          refine ⟨_, rfl, (by decide), fun p2 hp2 => ⟨_, _, _, rfl, rfl, SqL.of (same_new hp2 _ _ hl3), SqL.of upd_same, _, rfl, iteF (⟨_, rfl, _, _, _, _, rfl, rfl, SqL.of (same_new hp2 _ _ hl3), (show atI _ ((0 : Nat) : Int) = _ from atI_nat rfl), _, rfl, _, _, rfl, rfl, _, rfl, ?_⟩)⟩⟩
          rw [hin]
          refine rd2 (fun hc => ?_) (fun hc => ?_)
          · refine k _ _ ?_ (same_set (((s1.trans s2).trans sh).free hp2) ((s1.trans s2).trans sh))
            refine fin _ ?_
            cases e3 : sowM ss with
            | none => rfl
            | some ds =>
              have e4 := (sowM_take (i + 1) e3).symm.trans es
              have e4 : ds.take (i + 1) = cs ++ [c] := Option.some.inj e4
              rw [if_neg]
              intro hs
              have nd := (of_decide_eq_true hs).2.2.1
              have nd : ds.Nodup := nd
              have nd2 : (cs ++ [c]).Nodup := by rw [← e4]; exact nd.sublist (List.take_sublist _ _)
              exact (List.nodup_append.mp nd2).2.2 c hc c (by simp) rfl
          · have hle : (⟨cs.toArray⟩ : Str).length + (sg c).length ≤ sizeLine := by
              have e1 : (⟨cs.toArray⟩ : Str).length = cs.length := by show cs.toArray.size = _; simp
              have e2 : (sg c).length = 1 := rfl
              rw [e1, e2]
              exact Nat.le_trans (show cs.length + 1 ≤ 2000 by omega) (by decide)
            refine ⟨_, rfl, _, rfl, _, _, _, _, rfl, rfl, SqL.of (same_new hp2 _ _ hl3), (show atI _ ((0 : Nat) : Int) = _ from atI_nat rfl), _, _, rfl, rfl, hle, (same_set (sh.free hp2) sh), ?_⟩
            refine ⟨cs ++ [c], some (.str p), some (.ref D), es, ?_, ?_⟩
            · rw [List.nodup_append]; exact ⟨hnd, by simp, fun a ha b hb => by rw [List.mem_singleton.mp hb]; intro q; exact hc (q ▸ ha)⟩
            · rw [show (⟨(cs ++ [c]).toArray⟩ : Str) = (⟨cs.toArray⟩ : Str) ++ sg c from str_ext (by rw [app_list]; simp; rfl)]
              rfl
    · rintro σ J ⟨sJ, cs, v5, v6, hm, hnd, rfl⟩
      rw [List.length_map, List.take_of_length_le (Nat.le_refl _)] at hm
      have hcl := sowM_len hm
      have lz : (⟨cs.toArray⟩ : Str).length = cs.length := by show cs.toArray.size = _; simp
      have lb : (⟨cs.toArray⟩ : Str).length ≤ sizeLine := by rw [lz]; exact Nat.le_trans (show cs.length ≤ 2000 by omega) (by decide)
      have lt : (⟨cs.toArray⟩ : Str).cps.toList = cs := by simp
      have hp1 : 1 ≤ ss.length := by cases ss with | nil => exact absurd rfl hn | cons _ _ => simp
      have hsg : sgB (sowV (sowM ss)) lo hi = decide (cs.length ≤ hi) := by
        rw [hm]
        show decide _ = _
        rw [lz, lt]
        congr 1
        exact propext ⟨fun h => h.2.1, fun h => ⟨by omega, h, hnd, sowM_pn hm⟩⟩
      refine ⟨_, rfl, _, rfl, lb, _, rfl, _, _, rfl, rfl, _, rfl, ?_⟩
      refine rd2 (fun h => ?_) (fun h => ?_)
      · refine k _ _ ?_ ((s1.trans s2).trans sJ)
        refine fin _ ?_
        rw [hsg, if_neg]
        intro h2
        have := of_decide_eq_true h2
        rw [lz] at h
        omega
      · refine ⟨_, rfl, k _ _ ?_ ((s1.trans s2).trans sJ)⟩
        refine fin _ ?_
        rw [hsg, if_pos, hm]
        · rfl
        · rw [lz] at h; exact decide_eq_true (by omega)
def sp__law_read (K : PySem.W.Frag) : Sp := fun vs H Q _ => ∃ (w : Str), vs = [.str w] ∧ w.length ≤ 1000 ∧ (∀ n (p q f : Str) (b1 b2 b3 b4 : Bool), RowOf w n p q f b1 b2 b3 b4 → ∀ (t t2 : Addr) (H' : Hp), H' t = some (.tup [.str n, .ref t2]) → H' t2 = some (.tup (seven p q f b1 b2 b3 b4)) → Same H H' → Q (.ref t) H') ∧ ((∀ n (p q f : Str) (b1 b2 b3 b4 : Bool), ¬ RowOf w n p q f b1 b2 b3 b4) → ∀ H', Same H H' → Q .non H')
theorem ok__law_read (T : Txt K mg f_NoName___init__ f_TooMany___init__ f_Broken___init__ f_is_printable f_are_unlike_signs f_Dialect___init__ f_Dialect_told f_dialect_of f_makes_dialect f_is_name f_signs_of_word f_truths_of_word f_dialect_in f__law_cell_at f__law_mixed f__law_number f__law_some f__law_menus f__law_told f__law_title f__law_row f__law_spoilt f__law_signs f__law_read f__law_asked f_law C_Dialect C_DialectError N_DialectError C_NoText N_NoText C_NoTable N_NoTable C_NoDialect N_NoDialect C_NoRow N_NoRow C_NoName N_NoName C_TooMany N_TooMany C_Broken N_Broken fd_NoName___init__ fd_TooMany___init__ fd_Broken___init__ fd_is_printable fd_are_unlike_signs fd_Dialect___init__ fd_Dialect_told fd_dialect_of fd_makes_dialect fd_is_name fd_signs_of_word fd_truths_of_word fd_dialect_in fd__law_cell_at fd__law_mixed fd__law_number fd__law_some fd__law_menus fd__law_told fd__law_title fd__law_row fd__law_spoilt fd__law_signs fd__law_read fd__law_asked fd_law z_SMALL_LETTERS z_PRINTABLE dt_Dialect___init__) : FnOk P w K mg base CX0 3 f__law_read fd__law_read ["_law_row_here"] (sp__law_read K) := by
  have G__law_signs : FnOk P w K mg base CX0 2 f__law_signs fd__law_signs ["_law_word", "_law_least", "_law_most"] (sp__law_signs K) := ok__law_signs T
  refine T.F__law_read.ok sc__law_read (fun vs H Q E h => ?_) (fun cdv A outer s H vs Q E hr h => ?_)
  · obtain ⟨w, rfl, _⟩ := h; rfl
  · have hu := hu_of hr
    have hu0 := hr.units0
    obtain ⟨w, rfl, hw, k1, k2⟩ := h
    refine ⟨_, (pss_cons (ps_set (i := 1) sc__law_read.nd rfl (by first | exact Or.inl rfl | exact Or.inr rfl) (peK_bm K rfl PySem.F.plainAttrs_str PySem.F.slot_str_split PySem.F.type_str_split mt_split (pv 0) (pa_cons pe_str pa_nil st_Constant)) (hs := sw_Call))
      (pss_cons (ps_if (PW.pt (pw_or (pt_cmpR op_ne (pe_callB (callK_len_seq K rfl) rfl T.no_len (by decide +kernel) (pa_cons (pv 1) pa_nil st_Name)) pe_int (nomark _)) (pw_or (pt_cmpR op_ne (pe_ix (ixK_list K rfl) (pv 1) pe_int (fun _ _ => rfl)) pe_str (nomark _)) (pw_or1 (pt_not (pt_chain op_le op_le pe_int (pe_callB call_len_str rfl T.no_len (by decide +kernel) (pa_cons (pe_ix (ixK_list K rfl) (pv 1) pe_int (fun _ _ => rfl)) pa_nil st_Subscript)) pe_int)))))) (pss_one (ps_ret pe_non)) pss_nil)
      (pss_cons (ps_if (pt_not (pt_val (pe_callB (callK_all K rfl rfl) rfl T.no_all (by decide +kernel) (pa_cons (pe_comp rfl (show CompScope ["_law_row_here", "_law_words", "_law_some_here"] (defScope s__law_read) ["_law_sign"] 1 [] _ from ⟨rfl, by decide +kernel, by decide +kernel, by decide +kernel, by decide +kernel, rfl, rfl, by decide +kernel⟩) (pi_str (pe_ix (ixK_list K rfl) (pv 1) pe_int (fun _ _ => rfl))) (fun _ _ _ _ => (pg_name (i := 0) (show (["_law_sign"] : List Str).Nodup by decide +kernel) rfl (by first | exact Or.inl rfl | exact Or.inr rfl))) (fun _ _ _ _ => pif_nil) (fun _ _ _ _ => (pe_cmpR op_in_str (pv 0) pe_str rfl))) pa_nil st_ListComp)))) (pss_one (ps_ret pe_non)) pss_nil)
      (pss_cons (ps_set (i := 2) sc__law_read.nd rfl (by first | exact Or.inl rfl | exact Or.inr rfl) (pe_lst (pa_cons (pe_call (k := 2) G__law_signs (hr.mono (by decide)) rfl T.g__law_signs T.F__law_signs.kp T.b__law_signs .nil pass0 (pa_cons (pe_ix (ixK_list K rfl) (pv 1) pe_int (fun _ _ => rfl)) (pa_cons pe_int (pa_cons pe_int pa_nil st_Constant) st_Constant) st_Subscript)) (pa_cons (pe_call (k := 2) G__law_signs (hr.mono (by decide)) rfl T.g__law_signs T.F__law_signs.kp T.b__law_signs .nil pass0 (pa_cons (pe_ix (ixK_list K rfl) (pv 1) pe_int (fun _ _ => rfl)) (pa_cons pe_int (pa_cons pe_int pa_nil st_Constant) st_Constant) st_Subscript)) (pa_cons (pe_call (k := 2) G__law_signs (hr.mono (by decide)) rfl T.g__law_signs T.F__law_signs.kp T.b__law_signs .nil pass0 (pa_cons (pe_ix (ixK_list K rfl) (pv 1) pe_int (fun _ _ => rfl)) (pa_cons pe_int (pa_cons pe_int pa_nil st_Constant) st_Constant) st_Subscript)) pa_nil st_Call) st_Call) st_Call)) (hs := sw_List))
      (pss_cons (ps_if (PW.pt (pw_or (pt_cmpR (op_in_seq) pe_non (pv 2) rfl) (pw_or (pt_cmpR op_ne (pe_callB call_len_str rfl T.no_len (by decide +kernel) (pa_cons (pe_ix (ixK_list K rfl) (pv 1) pe_int (fun _ _ => rfl)) pa_nil st_Subscript)) pe_int (nomark _)) (pw_or1 (pt_not (pt_val (pe_callB (callK_all K rfl rfl) rfl T.no_all (by decide +kernel) (pa_cons (pe_comp rfl (show CompScope ["_law_row_here", "_law_words", "_law_some_here"] (defScope s__law_read) ["_law_sign"] 1 [] _ from ⟨rfl, by decide +kernel, by decide +kernel, by decide +kernel, by decide +kernel, rfl, rfl, by decide +kernel⟩) (pi_str (pe_ix (ixK_list K rfl) (pv 1) pe_int (fun _ _ => rfl))) (fun _ _ _ _ => (pg_name (i := 0) (show (["_law_sign"] : List Str).Nodup by decide +kernel) rfl (by first | exact Or.inl rfl | exact Or.inr rfl))) (fun _ _ _ _ => pif_nil) (fun _ _ _ _ => (pe_cmpR op_in_str (pv 0) pe_str rfl))) pa_nil st_ListComp)))))))) (pss_one (ps_ret pe_non)) pss_nil)
      (pss_one (ps_ret (pe_tup (pa_cons (pe_ix (ixK_list K rfl) (pv 1) pe_int (fun _ _ => rfl)) (pa_cons (pe_callTy (callK_tuple_of K rfl) rfl T.no_tuple (by decide +kernel) (pa_cons (pe_op op_cat (pv 2) (pe_comp rfl (show CompScope ["_law_row_here", "_law_words", "_law_some_here"] (defScope s__law_read) ["_law_sign"] 1 [] _ from ⟨rfl, by decide +kernel, by decide +kernel, by decide +kernel, by decide +kernel, rfl, rfl, by decide +kernel⟩) (pi_str (pe_ix (ixK_list K rfl) (pv 1) pe_int (fun _ _ => rfl))) (fun _ _ _ _ => (pg_name (i := 0) (show (["_law_sign"] : List Str).Nodup by decide +kernel) rfl (by first | exact Or.inl rfl | exact Or.inr rfl))) (fun _ _ _ _ => pif_nil) (fun _ _ _ _ => (pe_cmpR op_eq (pv 0) pe_str (nomark _))))) pa_nil st_BinOp)) pa_nil st_Call) st_Subscript))))))))), ?_⟩
    refine ⟨_, rfl, rfl, _, _, rfl, rfl, (show w.length ≤ 100000 by omega), fun ss hj hf hn l hl => ⟨_, rfl, _, _, rfl, .inl (SqL.of upd_same), rfl, _, rfl, ?_⟩⟩
    have hj : Str.join (sg 32) ss = w := hj
    have hf : ∀ p ∈ ss, 32 ∉ p.cps.toList := hf
    have hlen := join_count 32 ss
    rw [hj] at hlen
    refine rd2in (fun h6 => ?_) (fun h6 => ?_)
    · refine iteT (k2 ?_ _ (same_set hl (Same.refl _)))
      intro n p q f b1 b2 b3 b4 hR
      obtain ⟨w1, w2, w3, w4, v1, v2, v3, e1, e2, _⟩ := hR.ex
      have e3 := join_inj hn (by intro z; cases z) hf e2 (hj.trans e1.symm)
      rw [e3] at h6
      exact h6 (by simp)
    have h6 : ss.length = 6 := by rw [List.length_map] at h6; omega
    obtain ⟨w0, w1, w2, w3, w4, w5, rfl⟩ : ∃ w0 w1 w2 w3 w4 w5, ss = [w0, w1, w2, w3, w4, w5] := by
      match ss, h6 with
      | [w0, w1, w2, w3, w4, w5], _ => exact ⟨_, _, _, _, _, _, rfl⟩
    have inv := fun n p q f b1 b2 b3 b4 (h : RowOf w n p q f b1 b2 b3 b4) => row_inv h hj hf
    have hl6 : ∀ z ∈ [w0, w1, w2, w3, w4, w5], z.length ≤ 1000 := fun z hz => Nat.le_trans (join_mem_len 32 hz) (by rw [hj]; exact hw)
    have b1z : w1.length ≤ sizeLine := Nat.le_trans (hl6 w1 (by simp)) (by decide)
    have b5z : w5.length ≤ sizeLine := Nat.le_trans (hl6 w5 (by simp)) (by decide)
    (have s1 := same_new (o := HO.lst (List.map V.str [w0, w1, w2, w3, w4, w5])) hl; have q1 := upd_same (H := H) (a := l) (o := HO.lst (List.map V.str [w0, w1, w2, w3, w4, w5])); generalize upd H l (HO.lst (List.map V.str [w0, w1, w2, w3, w4, w5])) = H1 at s1 q1 ⊢)
    refine ⟨_, rfl, _, _, _, _, rfl, rfl, SqL.of q1, rfl, rfl, _, rfl, ?_⟩
    refine rd2sn (fun h0 => ?_) (fun h0 => ?_)
    · refine iteT (k2 ?_ _ s1)
      intro n p q f b1 b2 b3 b4 hR
      exact h0 (inv _ _ _ _ _ _ _ _ hR).1
    have nN : ¬ (1 ≤ w1.length ∧ w1.length ≤ 8) → ∀ n p q f b1 b2 b3 b4, ¬ RowOf w n p q f b1 b2 b3 b4 := fun h n p q f b1 b2 b3 b4 hR => by
      have hN := (inv _ _ _ _ _ _ _ _ hR).2.1
      exact h ⟨by have e : (decide (1 ≤ w1.length ∧ w1.length ≤ 8) && w1.cps.toList.all smallc) = true := hN; rw [Bool.and_eq_true] at e; exact (of_decide_eq_true e.1).1, isN_len hN⟩
    refine ⟨_, rfl, _, _, _, _, rfl, rfl, SqL.of q1, rfl, _, rfl, b1z, _, _, rfl, rfl, _, rfl, ?_⟩
    refine rd2 (fun h1 => ?_) (fun h1 => ?_)
    rotate_left
    · refine ⟨_, rfl, iteT (k2 ?_ _ s1)⟩
      exact nN fun q => by omega
    refine ⟨_, _, rfl, rfl, _, rfl, ?_⟩
    refine rd2n (fun h2 => ?_) (fun h2 => ?_)
    · refine k2 ?_ _ s1
      exact nN fun q => by omega
    refine ⟨_, rfl, _, _, _, _, rfl, rfl, SqL.of q1, rfl, _, rfl, fun D hD => ?_⟩
    refine comp_str (fun i ys τ H2 => (∃ v, τ = [v]) ∧ Same H1 H2 ∧ H2 D = some (.lst ys) ∧ ys = ((w1.cps.toList.take i).map smallc).map V.bl) ⟨⟨_, rfl⟩, same_new hD, upd_same, rfl⟩ (fun i ys τ H2 _ p => p.2.2.1) ?_ ?_
    · rintro i c ys τ H2 hi ⟨⟨v, rfl⟩, s2, hl2, rfl⟩
      have hil : i < w1.cps.toList.length := (List.getElem?_eq_some_iff.mp hi).1
      have hlw : w1.cps.toList.length = w1.length := Array.length_toList
      have e2 := small_in c
      unfold away at e2
      rw [Bool.not_not] at e2
      refine gyes ?_
      refine ⟨_, rfl, _, _, rfl, rfl, hl2, ?_, ⟨_, rfl⟩, (same_set hD s2), upd_same, ?_⟩
      · rw [List.length_map, List.length_map, List.length_take]
        exact Nat.lt_of_le_of_lt (show min i w1.cps.toList.length ≤ 8 by omega) (by decide)
      · rw [take_snoc hi, List.map_append, List.map_append]
        rw [List.map_cons, List.map_nil, List.map_cons, List.map_nil, ← e2]
    · rintro ys τ H2 ⟨⟨v, rfl⟩, s2, hl2, rfl⟩
      rw [List.take_of_length_le (Nat.le_refl _)] at hl2
      have ea : (w1.cps.toList.map smallc).all id = w1.cps.toList.all smallc := by rw [List.all_map]; rfl
      refine ⟨_, _, rfl, SqL.of hl2, _, rfl, ?_⟩
      rw [ea]
      have hq2 := s2 _ _ q1
      by_cases hsm : w1.cps.toList.all smallc = true
      rotate_left
      · have hsm2 : w1.cps.toList.all smallc = false := by cases e : w1.cps.toList.all smallc with | true => exact absurd e hsm | false => rfl
        refine rdNF hsm2 (k2 ?_ _ (s1.trans s2))
        intro n p q f b1 b2 b3 b4 hR
        have hN := (inv _ _ _ _ _ _ _ _ hR).2.1
        have e : (decide (1 ≤ w1.length ∧ w1.length ≤ 8) && w1.cps.toList.all smallc) = true := hN
        rw [Bool.and_eq_true] at e
        exact hsm e.2
      have hN : isN (.str w1) = true := by show (decide _ && _) = true; rw [decide_eq_true (show 1 ≤ w1.length ∧ w1.length ≤ 8 by omega), hsm]; rfl
      have z2 := hl6 w2 (by simp)
      have z3 := hl6 w3 (by simp)
      have z4 := hl6 w4 (by simp)
      refine rdNT hsm (⟨_, rfl, _, _, _, _, rfl, rfl, SqL.of hq2, rfl, _, _, _, rfl, z2, (show (1 : Nat) ≤ 1 by decide), fun v1 H3 o1 s3 => ⟨_, rfl, _, _, _, _, rfl, rfl, SqL.of (s3 _ _ hq2), rfl, _, _, _, rfl, z3, (show (0 : Nat) ≤ 1 by decide), fun v2 H4 o2 s4 => ⟨_, rfl, _, _, _, _, rfl, rfl, SqL.of (s4 _ _ (s3 _ _ hq2)), rfl, _, _, _, rfl, z4, (show (0 : Nat) ≤ 1 by decide), fun v3 H5 o3 s5 => ⟨(by show (3 : Nat) ≤ sizeLine; decide), fun l6 hl6' => ⟨_, rfl, _, _, rfl, .inl (SqL.of upd_same), rfl, ?_, _, rfl, ?_⟩⟩⟩⟩⟩)
      all_goals obtain ⟨u1, t1⟩ := sow_total w2
      all_goals obtain ⟨u2, t2⟩ := sow_total w3
      all_goals obtain ⟨u3, t3⟩ := sow_total w4
      all_goals have e1 := o1 u1 t1
      all_goals have e2 := o2 u2 t2
      all_goals have e3 := o3 u3 t3
      · rw [e1, e2, e3]
        have fl : ∀ (u : V) (a b : Nat), flatV (if sgB u a b = true then u else .non) = true := fun u a b => by
          by_cases h : sgB u a b = true
          · rw [if_pos h]
            obtain ⟨z, rfl, _⟩ := sg_true h
            rfl
          · rw [if_neg h]; rfl
        simp only [List.all_cons, List.all_nil, fl, Bool.and_true]
      (have s6 := same_new (o := HO.lst [v1, v2, v3]) hl6'; have q6 := upd_same (H := H5) (a := l6) (o := HO.lst [v1, v2, v3]); generalize upd H5 l6 (HO.lst [v1, v2, v3]) = H6 at s6 q6 ⊢)
      have hq6 := s6 _ _ (s5 _ _ (s4 _ _ (s3 _ _ hq2)))
      have sH6 := (((s2.trans s3).trans s4).trans s5).trans s6
      by_cases hG : sgB u1 1 3 = true ∧ sgB u2 0 2 = true ∧ sgB u3 0 2 = true
      rotate_left
      · have hin : inV .non [v1, v2, v3] = true := by
          have key : v1 = .non ∨ v2 = .non ∨ v3 = .non := by
            by_cases g1 : sgB u1 1 3 = true
            · by_cases g2 : sgB u2 0 2 = true
              · right; right; rw [e3, if_neg fun g3 => hG ⟨g1, g2, g3⟩]
              · right; left; rw [e2, if_neg g2]
            · left; rw [e1, if_neg g1]
          show List.any _ _ = true
          rw [List.any_eq_true]
          rcases key with h | h | h
          · exact ⟨v1, by simp, by rw [h]; rfl⟩
          · exact ⟨v2, by simp, by rw [h]; rfl⟩
          · exact ⟨v3, by simp, by rw [h]; rfl⟩
        have hin2 : (if false = true then !inV V.non [v1, v2, v3] else inV V.non [v1, v2, v3]) = true := by rw [if_neg (by decide)]; exact hin
        refine rdT hin2 (iteT (k2 ?_ _ (s1.trans sH6)))
        intro n p q f b1 b2 b3 b4 hR
        have hs := (inv _ _ _ _ _ _ _ _ hR).2.2.2 u1 u2 u3 t1 t2 t3
        have g := hR.gd
        have a1 : u1 = .str p := by injection hs
        have a2 : u2 = .str q := by injection hs with _ hs; injection hs
        have a3 : u3 = .str f := by injection hs with _ hs; injection hs with _ hs; injection hs
        refine hG ⟨?_, ?_, ?_⟩
        · rw [a1]; exact sg_of g.gp g.p1 g.p3
        · rw [a2]; exact sg_of g.gq (Nat.zero_le _) g.q2
        · rw [a3]; exact sg_of g.gf (Nat.zero_le _) g.f2
      obtain ⟨g1, g2, g3⟩ := hG
      obtain ⟨p, rfl, gp, lp1, lp3⟩ := sg_true g1
      obtain ⟨q, rfl, gq, _, lq2⟩ := sg_true g2
      obtain ⟨f, rfl, gf, _, lf2⟩ := sg_true g3
      rw [if_pos g1] at e1
      rw [if_pos g2] at e2
      rw [if_pos g3] at e3
      subst e1 e2 e3
      have hin2 : (if false = true then !inV V.non [V.str p, V.str q, V.str f] else inV V.non [V.str p, V.str q, V.str f]) = false := rfl
      have hlw5 : w5.cps.toList.length = w5.length := Array.length_toList
      have bad : (∀ b1 b2 b3 b4, w5.cps.toList.map trV ≠ [.bl b1, .bl b2, .bl b3, .bl b4]) → ∀ n p q f b1 b2 b3 b4, ¬ RowOf w n p q f b1 b2 b3 b4 := fun hb n p' q' f' b1 b2 b3 b4 hR => by
        have hs := (inv _ _ _ _ _ _ _ _ hR).2.2.2 _ _ _ t1 t2 t3
        injection hs with _ hs; injection hs with _ hs; injection hs with _ hs
        exact hb _ _ _ _ hs
      refine iteF (⟨_, rfl, _, _, _, _, rfl, rfl, SqL.of hq6, rfl, _, rfl, b5z, rfl, _, rfl, ?_⟩)
      refine rd2in (fun h4 => ?_) (fun h4 => ?_)
      · refine iteT (k2 ?_ _ (s1.trans sH6))
        refine bad fun b1 b2 b3 b4 e => h4 ?_
        have e := congrArg List.length e
        rw [List.length_map, hlw5] at e
        exact congrArg Int.ofNat e
      have h4 : w5.length = 4 := by omega
      refine ⟨_, rfl, _, _, _, _, rfl, rfl, SqL.of hq6, rfl, _, rfl, fun D2 hD2 => ?_⟩
      refine comp_str (fun i ys τ J => (∃ v, τ = [v]) ∧ Same H6 J ∧ J D2 = some (.lst ys) ∧ ys = ((w5.cps.toList.take i).map fun c => decide (c = 48 ∨ c = 49)).map V.bl) ⟨⟨_, rfl⟩, same_new hD2, upd_same, rfl⟩ (fun i ys τ H2 _ p => p.2.2.1) ?_ ?_
      · rintro i c ys τ J hi ⟨⟨v, rfl⟩, s7, hl7, rfl⟩
        have hil : i < w5.cps.toList.length := (List.getElem?_eq_some_iff.mp hi).1
        have i01 := in01 c
        refine gyes ?_
        refine ⟨_, rfl, _, _, rfl, rfl, hl7, ?_, ⟨_, rfl⟩, (same_set hD2 s7), upd_same, ?_⟩
        · rw [List.length_map, List.length_map, List.length_take]
          exact Nat.lt_of_le_of_lt (show min i w5.cps.toList.length ≤ 8 by omega) (by decide)
        · rw [take_snoc hi, List.map_append, List.map_append, i01]; rfl
      · rintro ys τ J ⟨⟨v, rfl⟩, s7, hl7, rfl⟩
        rw [List.take_of_length_le (Nat.le_refl _)] at hl7
        refine ⟨_, _, rfl, SqL.of hl7, _, rfl, ?_⟩
        by_cases h01 : (w5.cps.toList.map fun c => decide (c = 48 ∨ c = 49)).all id = true
        rotate_left
        · have h01f : (w5.cps.toList.map fun c => decide (c = 48 ∨ c = 49)).all id = false := by cases e : (w5.cps.toList.map fun c => decide (c = 48 ∨ c = 49)).all id with | true => exact absurd e h01 | false => rfl
          refine rdNF h01f (k2 ?_ _ ((s1.trans sH6).trans s7))
          refine bad fun b1 b2 b3 b4 e => h01 ?_
          rw [List.all_map, List.all_eq_true]
          intro c hc
          have hm : trV c ∈ w5.cps.toList.map trV := List.mem_map.mpr ⟨c, hc, rfl⟩
          rw [e] at hm
          refine decide_eq_true ?_
          rcases Nat.decEq c 48 with n8 | y8
          · rcases Nat.decEq c 49 with n9 | y9
            · have : trV c = .non := by unfold trV; rw [if_neg n9, if_neg n8]
              rw [this] at hm
              simp at hm
            · exact .inr y9
          · exact .inl y8
        have hall : ∀ c ∈ w5.cps.toList, c = 48 ∨ c = 49 := fun c hc => by
          rw [List.all_map, List.all_eq_true] at h01
          exact of_decide_eq_true (h01 c hc)
        have hq7 := s7 _ _ hq6
        have q67 := s7 _ _ q6
        refine rdNT h01 (⟨_, rfl, _, _, _, _, rfl, rfl, SqL.of hq7, rfl, _, rfl, _, rfl, _, _, _, _, rfl, rfl, SqL.of hq7, rfl, _, rfl, fun D3 hD3 => ?_⟩)
        refine comp_str (fun i ys τ J2 => (∃ v, τ = [v]) ∧ Same J J2 ∧ J2 D3 = some (.lst ys) ∧ ys = (w5.cps.toList.take i).map trV) ⟨⟨_, rfl⟩, same_new hD3, upd_same, rfl⟩ (fun i ys τ H2 _ p => p.2.2.1) ?_ ?_
        · rintro i c ys τ J2 hi ⟨⟨v, rfl⟩, s8, hl8, rfl⟩
          have hil : i < w5.cps.toList.length := (List.getElem?_eq_some_iff.mp hi).1
          have hc := hall c (List.mem_of_getElem? hi)
          have et : V.bl (decide (V.str (sg c) = V.str (Str.ofString "1"))) = trV c := by
            rw [sg_eq1]
            unfold trV
            rcases hc with rfl | rfl <;> rfl
          refine gyes ?_
          refine ⟨_, rfl, rfl, hl8, ?_, ⟨_, rfl⟩, (same_set hD3 s8), upd_same, ?_⟩
          · rw [List.length_map, List.length_take]
            exact Nat.lt_of_le_of_lt (show min i w5.cps.toList.length ≤ 8 by omega) (by decide)
          · rw [take_snoc hi, List.map_append, et]; rfl
        · rintro ys τ J2 ⟨⟨v, rfl⟩, s8, hl8, rfl⟩
          rw [List.take_of_length_le (Nat.le_refl _)] at hl8
          obtain ⟨b1, b2, b3, b4, eb⟩ : ∃ b1 b2 b3 b4, w5.cps.toList.map trV = [.bl b1, .bl b2, .bl b3, .bl b4] := by
            have key : ∀ c ∈ w5.cps.toList, ∃ b, trV c = .bl b := fun c hc => by
              unfold trV
              rcases hall c hc with rfl | rfl
              · exact ⟨false, rfl⟩
              · exact ⟨true, rfl⟩
            generalize w5.cps.toList = cs at key hlw5
            rw [h4] at hlw5
            match cs, hlw5 with
            | [c1, c2, c3, c4], _ =>
              obtain ⟨b1, x1⟩ := key c1 (by simp)
              obtain ⟨b2, x2⟩ := key c2 (by simp)
              obtain ⟨b3, x3⟩ := key c3 (by simp)
              obtain ⟨b4, x4⟩ := key c4 (by simp)
              exact ⟨b1, b2, b3, b4, by rw [List.map_cons, List.map_cons, List.map_cons, List.map_cons, x1, x2, x3, x4]; rfl⟩
          rw [eb] at hl8
          have q68 := s8 _ _ q67
          have hR : RowOf w w1 p q f b1 b2 b3 b4 := ⟨⟨w2, w3, w4, w5, _, _, _, by rw [← h0]; exact hj, by rw [← h0]; exact hf, hN, t1, t2, t3, by rw [eb]; rfl⟩, ⟨gp, gq, gf, lp1, lp3, lq2, lf2⟩⟩
          refine ⟨_, _, _, _, rfl, rfl, q68, hl8, (show (3 : Nat) + 4 ≤ sizeLine by decide), fun l9 hl9 => ⟨_, _, rfl, .inl (⟨SqL.of upd_same, ?_⟩)⟩⟩
          (have s9 := same_new (o := HO.lst ([V.str p, V.str q, V.str f] ++ [V.bl b1, V.bl b2, V.bl b3, V.bl b4])) hl9; have q9 := upd_same (H := J2) (a := l9) (o := HO.lst ([V.str p, V.str q, V.str f] ++ [V.bl b1, V.bl b2, V.bl b3, V.bl b4])); generalize upd J2 l9 (HO.lst ([V.str p, V.str q, V.str f] ++ [V.bl b1, V.bl b2, V.bl b3, V.bl b4])) = J3 at s9 q9 ⊢)
          intro t10 ht10
          have e7 : [V.str p, V.str q, V.str f] ++ [V.bl b1, V.bl b2, V.bl b3, V.bl b4] = seven p q f b1 b2 b3 b4 := rfl
          rw [e7]
          (have s10 := same_new (o := HO.tup (seven p q f b1 b2 b3 b4)) ht10; have q10 := upd_same (H := J3) (a := t10) (o := HO.tup (seven p q f b1 b2 b3 b4)); generalize upd J3 t10 (HO.tup (seven p q f b1 b2 b3 b4)) = J4 at s10 q10 ⊢)
          refine ⟨(by show (2 : Nat) ≤ sizeLine; decide), fun t11 ht11 => k1 _ _ _ _ _ _ _ _ hR _ _ _ upd_same (same_new ht11 _ _ q10) (same_set ((((((s1.trans sH6).trans s7).trans s8).trans s9).trans s10).free ht11) (((((s1.trans sH6).trans s7).trans s8).trans s9).trans s10))⟩
def sp__law_asked (K : PySem.W.Frag) : Sp := fun vs H Q _ => ∃ (v : V), vs = [v] ∧ Knd H v ∧ (∀ w, v = .str w → w.length ≤ 1000) ∧ (∀ w n (p q f : Str) (b1 b2 b3 b4 : Bool), v = .str w → RowOf w n p q f b1 b2 b3 b4 → ∀ (t t2 t3 : Addr) (H' : Hp), H' t = some (.tup [.str (Str.ofString "told"), .ref t2]) → H' t2 = some (.tup [.str n, .ref t3]) → H' t3 = some (.tup (seven p q f b1 b2 b3 b4)) → Same H H' → Q (.ref t) H') ∧ ((∀ w n (p q f : Str) (b1 b2 b3 b4 : Bool), v = .str w → ¬ RowOf w n p q f b1 b2 b3 b4) → ∀ t H', H' t = some (.tup [.str (Str.ofString "refused"), .bl true]) → Same H H' → Q (.ref t) H')
theorem ok__law_asked (T : Txt K mg f_NoName___init__ f_TooMany___init__ f_Broken___init__ f_is_printable f_are_unlike_signs f_Dialect___init__ f_Dialect_told f_dialect_of f_makes_dialect f_is_name f_signs_of_word f_truths_of_word f_dialect_in f__law_cell_at f__law_mixed f__law_number f__law_some f__law_menus f__law_told f__law_title f__law_row f__law_spoilt f__law_signs f__law_read f__law_asked f_law C_Dialect C_DialectError N_DialectError C_NoText N_NoText C_NoTable N_NoTable C_NoDialect N_NoDialect C_NoRow N_NoRow C_NoName N_NoName C_TooMany N_TooMany C_Broken N_Broken fd_NoName___init__ fd_TooMany___init__ fd_Broken___init__ fd_is_printable fd_are_unlike_signs fd_Dialect___init__ fd_Dialect_told fd_dialect_of fd_makes_dialect fd_is_name fd_signs_of_word fd_truths_of_word fd_dialect_in fd__law_cell_at fd__law_mixed fd__law_number fd__law_some fd__law_menus fd__law_told fd__law_title fd__law_row fd__law_spoilt fd__law_signs fd__law_read fd__law_asked fd_law z_SMALL_LETTERS z_PRINTABLE dt_Dialect___init__) : FnOk P w K mg base CX0 8 f__law_asked fd__law_asked ["_law_row_here"] (sp__law_asked K) := by
  have G_Dialect_told : FnOk P w K mg base CX0 1 f_Dialect_told fd_Dialect_told ["self"] (sp_Dialect_told C_Dialect) := ok_Dialect_told T
  have G_dialect_in : FnOk P w K mg base (CXe P w) 7 f_dialect_in fd_dialect_in ["row"] (sp_dialect_in K C_Dialect C_NoRow) := ok_dialect_in T
  refine T.F__law_asked.ok sc__law_asked (fun vs H Q E h => ?_) (fun cdv A outer s H vs Q E hr h => ?_)
  · obtain ⟨v, rfl, _⟩ := h; rfl
  · have hu := hu_of hr
    have hu0 := hr.units0
    obtain ⟨v, rfl, hk, hb, k1, k2⟩ := h
    have hu64 := hr.units
    refine ⟨_, (pss_cons (ps_set (i := 1) sc__law_asked.nd rfl (by first | exact Or.inl rfl | exact Or.inr rfl) pe_non (hs := sw_Constant))
      (pss_cons (ps_tryX rfl rfl (pssx_one (psx_set (i := 1) sc__law_asked.nd rfl (by first | exact Or.inl rfl | exact Or.inr rfl) (pex_call (k := 7) G_dialect_in (hr.mono (by decide)) rfl T.g_dialect_in T.F_dialect_in.kp T.b_dialect_in .nil (pa_cons (pv 0) pa_nil st_Name)))) (ph_as (i := 2) rfl rfl T.g_DialectError T.x_DialectError (.inl rfl) sc__law_asked.nd rfl rfl (fun ea => (pss_cons (ps_if (PW.pt (pw_or (pt_val (pe_callB (call_isXT rfl) rfl T.no_isinstance (by decide +kernel) (pa_cons (pv 2) (pa_cons (pe_tup (pa_cons (pe_gref rfl T.g_Broken) (pa_cons (pe_gref rfl T.g_NoDialect) (pa_cons (pe_gref rfl T.g_NoName) (pa_cons (pe_gref rfl T.g_NoTable) (pa_cons (pe_gref rfl T.g_NoText) (pa_cons (pe_gref rfl T.g_TooMany) pa_nil st_Name) st_Name) st_Name) st_Name) st_Name) st_Name)) pa_nil st_Tuple) st_Name))) (pw_or1 (pt_not (pt_val (pe_callB (call_isX rfl) rfl T.no_isinstance (by decide +kernel) (pa_cons (pv 2) (pa_cons (pe_bty "ValueError" rfl T.no_ValueError (by decide +kernel)) pa_nil st_Name) st_Name))))))) (pss_one (ps_ret (pe_tup (pa_cons pe_str (pa_cons pe_non pa_nil st_Constant) st_Constant)))) pss_nil)
      (pss_one (ps_ret (pe_tup (pa_cons pe_str (pa_cons (pe_callB (call_isX rfl) rfl T.no_isinstance (by decide +kernel) (pa_cons (pv 2) (pa_cons (pe_gref rfl T.g_NoRow) pa_nil st_Name) st_Name)) pa_nil st_Call) st_Constant)))))) ph_nil) pss_nil)
      (pss_cons (ps_if (PW.pt (pw_or (pt_not (pt_val (pe_callB (callK_isinst K rfl) rfl T.no_isinstance (by decide +kernel) (pa_cons (pv 1) (pa_cons (pe_bty "tuple" rfl T.no_tuple (by decide +kernel)) pa_nil st_Name) st_Name)))) (pw_or (pt_cmpR op_ne (pe_callB (callK_len_seq K rfl) rfl T.no_len (by decide +kernel) (pa_cons (pv 1) pa_nil st_Name)) pe_int (nomark _)) (pw_or1 (pt_not (pt_val (pe_callB (callK_isinst K rfl) rfl T.no_isinstance (by decide +kernel) (pa_cons (pe_ix (ixK_tup K rfl) (pv 1) pe_int (fun _ _ => rfl)) (pa_cons (pe_gref rfl T.g_Dialect) pa_nil st_Name) st_Subscript)))))))) (pss_one (ps_ret (pe_tup (pa_cons pe_str (pa_cons pe_non pa_nil st_Constant) st_Constant)))) pss_nil)
      (pss_one (ps_ret (pe_tup (pa_cons pe_str (pa_cons (pe_tup (pa_cons (pe_ix (ixK_tup K rfl) (pv 1) pe_int (fun _ _ => rfl)) (pa_cons (pe_meth0 (k := 1) (pe_ix (ixK_tup K rfl) (pv 1) pe_int (fun _ _ => rfl)) T.cl_Dialect T.m_Dialect_told G_Dialect_told (hr.mono (by decide)) T.b_Dialect_told .nil pass0) pa_nil st_Call) st_Subscript)) pa_nil st_Tuple) st_Constant))))))), ?_⟩
    refine ⟨_, rfl, v, rfl, hk, hb, fun w n p q f b1 b2 b3 b4 e hR t x dx H1 ht0 ht hx0 hx s1 => ?_, fun hno H1 s1 ea hea => ?_⟩
    · have ti := TyOf.ins hx T.cl_Dialect T.ic_Dialect.1 T.ic_Dialect.2.1 T.ic_Dialect.2.2.1 T.ic_Dialect.2.2.2.1
      dsimp only [gName]
      refine ⟨_, rfl, _, _, _, _, rfl, .tup ht, .inl ⟨_, ⟨rfl, rfl⟩⟩, _, rfl, iteF (⟨_, rfl, _, _, rfl, .inr (SqT.of ht), rfl, _, rfl, rdJ (by simp) (⟨_, rfl, _, _, _, _, rfl, rfl, SqT.of ht, rfl, _, _, _, _, rfl, ti, .inr ⟨_, ⟨rfl, T.ic_Dialect.2.2.2.2⟩⟩, _, rfl, iteF (⟨_, rfl, _, _, _, _, rfl, rfl, SqT.of ht, rfl, _, rfl, _, _, _, _, rfl, rfl, SqT.of ht, rfl, _, _, _, rfl, hx, rfl, _, _, _, _, _, _, _, _, _, rfl, hx, fun t6 ht6 => ⟨(by show (2 : Nat) ≤ sizeLine; decide), fun t7 ht7 => ⟨(by show (2 : Nat) ≤ sizeLine; decide), fun t8 ht8 => k1 _ _ _ _ _ _ _ _ _ e hR _ _ _ _ upd_same (same_new ht8 _ _ upd_same) (same_new ht8 _ _ (same_new ht7 _ _ upd_same)) (same_set ((same_set ((same_set (s1.free ht6) s1).free ht7) (same_set (s1.free ht6) s1)).free ht8) (same_set ((same_set (s1.free ht6) s1).free ht7) (same_set (s1.free ht6) s1)))⟩⟩⟩)⟩)⟩)⟩
    refine ⟨C_NoRow, N_NoRow, _, _, rfl, T.x_NoRow, iteBt (by simp) ?_⟩
    (have s2 := same_new (o := xcO ea (Value.ref C_NoRow) none) hea; have q2 := upd_same (H := H1) (a := ea) (o := xcO ea (Value.ref C_NoRow) none); generalize upd H1 ea (xcO ea (Value.ref C_NoRow) none) = H2 at s2 q2 ⊢)
    have xo : XOb H2 ea C_NoRow := ⟨none, .inr q2, .inl rfl⟩
    have tl : XTl K (.ref C_DialectError :: bmVE) := (.inr ⟨_, _, rfl, T.x_DialectError⟩)
    refine ⟨_, rfl, (by show (6 : Nat) ≤ sizeLine; decide), fun tp htp => ?_⟩
    (have s3 := same_new (o := HO.tup [V.ref C_Broken, V.ref C_NoDialect, V.ref C_NoName, V.ref C_NoTable, V.ref C_NoText, V.ref C_TooMany]) htp; have q3 := upd_same (H := H2) (a := tp) (o := HO.tup [V.ref C_Broken, V.ref C_NoDialect, V.ref C_NoName, V.ref C_NoTable, V.ref C_NoText, V.ref C_TooMany]); generalize upd H2 tp (HO.tup [V.ref C_Broken, V.ref C_NoDialect, V.ref C_NoName, V.ref C_NoTable, V.ref C_NoText, V.ref C_TooMany]) = H3 at s3 q3 ⊢)
    have hD : ∀ D ∈ [C_Broken, C_NoDialect, C_NoName, C_NoTable, C_NoText, C_TooMany], PySem.W.kitOne K (.ref C_NoRow) (.ref D) = some false := by
      intro D hD
      simp only [List.mem_cons, List.not_mem_nil, or_false] at hD
      rcases hD with rfl | rfl | rfl | rfl | rfl | rfl
      · exact T.ki_NoRow_Broken
      · exact T.ki_NoRow_NoDialect
      · exact T.ki_NoRow_NoName
      · exact T.ki_NoRow_NoTable
      · exact T.ki_NoRow_NoText
      · exact T.ki_NoRow_TooMany
    have q3 : H3 tp = some (.tup ([C_Broken, C_NoDialect, C_NoName, C_NoTable, C_NoText, C_TooMany].map V.ref)) := q3
    have xo3 := xo.mono s3
    refine ⟨_, _, _, _, _, _, _, rfl, xo3, T.x_NoRow, tl, T.xk_NoRow, q3, hD, _, rfl, iteF (⟨_, rfl, _, _, _, _, _, _, _, rfl, xo3, T.x_NoRow, tl, T.xk_NoRow, .inl ⟨_, ⟨rfl, T.kv_NoRow⟩⟩, _, rfl, iteF (⟨_, rfl, _, _, _, _, _, _, _, rfl, xo3, T.x_NoRow, tl, T.xk_NoRow, .inr ⟨_, ⟨rfl, T.ki_NoRow_NoRow⟩⟩, (by decide), fun t4 ht4 => k2 hno _ _ upd_same (same_set (((s1.trans s2).trans s3).free ht4) ((s1.trans s2).trans s3))⟩)⟩)⟩
def sp_law (K : PySem.W.Frag) : Sp := fun vs H Q _ => ∃ (a : Addr) (ns : List Int), vs = [.ref a] ∧ SqL K H a (ns.map V.int) ∧ ns.length ≤ 63 ∧ ∀ H', Q (.bl true) H'
theorem ok_law (T : Txt K mg f_NoName___init__ f_TooMany___init__ f_Broken___init__ f_is_printable f_are_unlike_signs f_Dialect___init__ f_Dialect_told f_dialect_of f_makes_dialect f_is_name f_signs_of_word f_truths_of_word f_dialect_in f__law_cell_at f__law_mixed f__law_number f__law_some f__law_menus f__law_told f__law_title f__law_row f__law_spoilt f__law_signs f__law_read f__law_asked f_law C_Dialect C_DialectError N_DialectError C_NoText N_NoText C_NoTable N_NoTable C_NoDialect N_NoDialect C_NoRow N_NoRow C_NoName N_NoName C_TooMany N_TooMany C_Broken N_Broken fd_NoName___init__ fd_TooMany___init__ fd_Broken___init__ fd_is_printable fd_are_unlike_signs fd_Dialect___init__ fd_Dialect_told fd_dialect_of fd_makes_dialect fd_is_name fd_signs_of_word fd_truths_of_word fd_dialect_in fd__law_cell_at fd__law_mixed fd__law_number fd__law_some fd__law_menus fd__law_told fd__law_title fd__law_row fd__law_spoilt fd__law_signs fd__law_read fd__law_asked fd_law z_SMALL_LETTERS z_PRINTABLE dt_Dialect___init__) : FnOk P w K mg base CX0 9 f_law fd_law ["_law_script"] (sp_law K) := by
  have G__law_asked : FnOk P w K mg base CX0 8 f__law_asked fd__law_asked ["_law_row_here"] (sp__law_asked K) := ok__law_asked T
  have G__law_cell_at : FnOk P w K mg base CX0 1 f__law_cell_at fd__law_cell_at ["_law_script", "_law_k"] (sp__law_cell_at K) := ok__law_cell_at T
  have G__law_read : FnOk P w K mg base CX0 3 f__law_read fd__law_read ["_law_row_here"] (sp__law_read K) := ok__law_read T
  have G__law_row : FnOk P w K mg base CX0 2 f__law_row fd__law_row ["_law_name", "_law_told_here"] (sp__law_row K) := ok__law_row T
  have G__law_spoilt : FnOk P w K mg base CX0 3 f__law_spoilt fd__law_spoilt ["_law_words", "_law_cell"] (sp__law_spoilt K) := ok__law_spoilt T
  have G__law_title : FnOk P w K mg base CX0 3 f__law_title fd__law_title ["_law_cell"] sp__law_title := ok__law_title T
  have G__law_told : FnOk P w K mg base CX0 3 f__law_told fd__law_told ["_law_cell"] sp__law_told := ok__law_told T
  refine T.F_law.ok sc_law (fun vs H Q E h => ?_) (fun cdv A outer s H vs Q E hr h => ?_)
  · obtain ⟨a, ns, rfl, _⟩ := h; rfl
  · have hu := hu_of hr
    have hu0 := hr.units0
    obtain ⟨a, ns, rfl, hS, hn, k⟩ := h
    have hu64 := hr.units
    refine ⟨_, (pss_cons (ps_set (i := 1) sc_law.nd rfl (by first | exact Or.inl rfl | exact Or.inr rfl) (pe_call (k := 3) G__law_told (hr.mono (by decide)) rfl T.g__law_told T.F__law_told.kp T.b__law_told .nil pass0 (pa_cons (pe_call (k := 1) G__law_cell_at (hr.mono (by decide)) rfl T.g__law_cell_at T.F__law_cell_at.kp T.b__law_cell_at .nil pass0 (pa_cons (pv 0) (pa_cons pe_int pa_nil st_Constant) st_Name)) pa_nil st_Call)) (hs := sw_Call))
      (pss_cons (ps_set (i := 2) sc_law.nd rfl (by first | exact Or.inl rfl | exact Or.inr rfl) (peK_bm K rfl PySem.F.plainAttrs_str PySem.F.slot_str_split PySem.F.type_str_split mt_split (pe_call (k := 2) G__law_row (hr.mono (by decide)) rfl T.g__law_row T.F__law_row.kp T.b__law_row .nil pass0 (pa_cons (pe_call (k := 3) G__law_title (hr.mono (by decide)) rfl T.g__law_title T.F__law_title.kp T.b__law_title .nil pass0 (pa_cons (pe_call (k := 1) G__law_cell_at (hr.mono (by decide)) rfl T.g__law_cell_at T.F__law_cell_at.kp T.b__law_cell_at .nil pass0 (pa_cons (pv 0) (pa_cons pe_int pa_nil st_Constant) st_Name)) pa_nil st_Call)) (pa_cons (pv 1) pa_nil st_Name) st_Call)) (pa_cons pe_str pa_nil st_Constant)) (hs := sw_Call))
      (pss_cons (ps_for PassesOwn.never rfl (piK_list K rfl (pe_slice (slK_list K rfl) (pv 0) (po_some pe_int) (po_some (pe_op op_add pe_int (pe_op op_mod (pe_call (k := 1) G__law_cell_at (hr.mono (by decide)) rfl T.g__law_cell_at T.F__law_cell_at.kp T.b__law_cell_at .nil pass0 (pa_cons (pv 0) (pa_cons pe_int pa_nil st_Constant) st_Name)) pe_int))))) (pg_name (i := 3) sc_law.nd rfl (by first | exact Or.inl rfl | exact Or.inr rfl))
      (pss_one (ps_if (pt_cmpR (opK_neL K rfl hu0) (pv 2) (pe_lst pa_nil) (nomark _)) (pss_one (ps_set (i := 2) sc_law.nd rfl (by first | exact Or.inl rfl | exact Or.inr rfl) (pe_call (k := 3) G__law_spoilt (hr.mono (by decide)) rfl T.g__law_spoilt T.F__law_spoilt.kp T.b__law_spoilt .nil pass0 (pa_cons (pv 2) (pa_cons (pv 3) pa_nil st_Name) st_Name)) (hs := sw_Call))) pss_nil)))
      (pss_cons (ps_set (i := 4) sc_law.nd rfl (by first | exact Or.inl rfl | exact Or.inr rfl) (peK_bm K rfl PySem.F.plainAttrs_str PySem.F.slot_str_join PySem.F.type_str_join (mtK_join K rfl) pe_str (pa_cons (pv 2) pa_nil st_Name)) (hs := sw_Call))
      (pss_cons (ps_set (i := 5) sc_law.nd rfl (by first | exact Or.inl rfl | exact Or.inr rfl) (pe_call (k := 3) G__law_read (hr.mono (by decide)) rfl T.g__law_read T.F__law_read.kp T.b__law_read .nil pass0 (pa_cons (pv 4) pa_nil st_Name)) (hs := sw_Call))
      (pss_cons (ps_for PassesOwn.never rfl (pi_range1 rfl T.no_range (pa_cons pe_int pa_nil st_Constant)) (pg_name (i := 6) sc_law.nd rfl (by first | exact Or.inl rfl | exact Or.inr rfl))
      (pss_cons (ps_if (PW.pt (pw_and (pt_cmpR op_isN (pv 5) pe_non (nomark _)) (pw_and1 (pt_cmpR (op_neT K rfl hu0) (pe_call (k := 8) G__law_asked (hr.mono (by decide)) rfl T.g__law_asked T.F__law_asked.kp T.b__law_asked .nil pass0 (pa_cons (pv 4) pa_nil st_Name)) (pe_tup (pa_cons pe_str (pa_cons pe_bl pa_nil st_Constant) st_Constant)) (nomark _))))) (pss_one (ps_ret pe_bl)) pss_nil)
      (pss_one (ps_if (PW.pt (pw_and (pt_cmpR op_notN (pv 5) pe_non (nomark _)) (pw_and1 (pt_cmpR (op_neS K rfl hu64) (pe_call (k := 8) G__law_asked (hr.mono (by decide)) rfl T.g__law_asked T.F__law_asked.kp T.b__law_asked .nil pass0 (pa_cons (pv 4) pa_nil st_Name)) (pe_tup (pa_cons pe_str (pa_cons (pv 5) pa_nil st_Name) st_Constant)) (nomark _))))) (pss_one (ps_ret pe_bl)) pss_nil))))
      (pss_cons (ps_for PassesOwn.never rfl (piK_list K rfl (pe_lst (pa_cons pe_non (pa_cons pe_int (pa_cons pe_bl (pa_cons (pv 2) (pa_cons (pe_callTy (callK_tuple_of K rfl) rfl T.no_tuple (by decide +kernel) (pa_cons (pv 2) pa_nil st_Name)) (pa_cons (pe_op op_add_str (pv 4) pe_str) (pa_cons (pe_op op_add_str pe_str (pv 4)) (pa_cons pe_str pa_nil st_Constant) st_BinOp) st_BinOp) st_Call) st_Name) st_Constant) st_Constant) st_Constant))) (pg_name (i := 7) sc_law.nd rfl (by first | exact Or.inl rfl | exact Or.inr rfl))
      (pss_one (ps_if (pt_cmpR (op_neT K rfl hu0) (pe_call (k := 8) G__law_asked (hr.mono (by decide)) rfl T.g__law_asked T.F__law_asked.kp T.b__law_asked .nil pass0 (pa_cons (pv 7) pa_nil st_Name)) (pe_tup (pa_cons pe_str (pa_cons pe_bl pa_nil st_Constant) st_Constant)) (nomark _)) (pss_one (ps_ret pe_bl)) pss_nil)))
      (pss_one (ps_ret pe_bl))))))))), ?_⟩
    refine ⟨_, rfl, _, _, _, rfl, (Same.refl _).seq hS, (by decide), fun c0 => ⟨_, rfl, fun t1 p q f b1 b2 b3 b4 H1 g ht10 ht1 s1 => ⟨_, rfl, _, _, _, rfl, s1.seq hS, (by decide), fun c1 => ⟨_, rfl, ?_⟩⟩⟩⟩
    intro n hN
    have hn8 := isN_len hN
    refine ⟨_, rfl, _, _, _, _, _, _, _, _, _, rfl, ht1, g, hn8, fun H2 s2 => ⟨rfl, _, _, rfl, rfl, (row_len2 hN g), fun ss hj hf hne l hl => ⟨_, rfl, _, rfl, _, rfl, _, _, _, rfl, (same_set ((s1.trans s2).free hl) (s1.trans s2)).seq hS, (by decide), ?_⟩⟩⟩
    have hj : Str.join (sg 32) ss = rowW n p q f b1 b2 b3 b4 := hj
    have hf : ∀ p ∈ ss, 32 ∉ p.cps.toList := hf
    (have s3 := same_new (o := HO.lst (List.map V.str ss)) hl; have q3 := upd_same (H := H2) (a := l) (o := HO.lst (List.map V.str ss)); generalize upd H2 l (HO.lst (List.map V.str ss)) = H3 at s3 q3 ⊢)
    have W0 : Wds ss 6 := row_wds g hN hj hf hne
    refine fun c2 => ⟨_, _, rfl, rfl, (by omega), _, _, rfl, rfl, _, rfl, _, _, rfl, ((s1.trans s2).trans s3).seq hS, ?_⟩
    have m0 := Int.emod_nonneg c2 (show (3 : Int) ≠ 0 by decide)
    have m1 := Int.emod_lt_of_pos c2 (show (0 : Int) < 3 by decide)
    refine fun l2 hl2 => ⟨_, rfl, ⟨_, SqL.of upd_same⟩, ?_⟩
    obtain ⟨cs, ecs, hcs⟩ := cut_two (ns := ns) m0 m1
    rw [ecs]
    (have s4 := same_new (o := HO.lst (List.map V.int cs)) hl2; have q4 := upd_same (H := H3) (a := l2) (o := HO.lst (List.map V.int cs)); generalize upd H3 l2 (HO.lst (List.map V.int cs)) = H4 at s4 q4 ⊢)
    have b6 : ∀ i, i ≤ cs.length → 6 + i ≤ 8 := fun i hi => by omega
    refine for_list (K := K) (a := l2) (xs := cs.map V.int) (fun i σ J => Same H4 J ∧ ∃ (l : Addr) (ws : List Str) (v3 : Option V), J l = some (.lst (ws.map V.str)) ∧ Wds ws (6 + i) ∧ σ = [some (.ref a), some (.ref t1), some (.ref l), v3, none, none, none, none]) ⟨Same.refl _, l, ss, _, s4 _ _ q3, W0, rfl⟩ (fun i σ J _ h => SqL.of (h.1 _ _ q4)) ?_ ?_
    · rintro i y σ J hi ⟨sJ, l, ws, v3, hl, hW, rfl⟩
      rw [List.getElem?_map] at hi
      obtain ⟨c, hi2, rfl⟩ := Option.map_eq_some_iff.mp hi
      have hil : i < cs.length := (List.getElem?_eq_some_iff.mp hi2).1
      dsimp only [gName]
      refine ⟨_, rfl, (by decide), fun l5 hl5 => ⟨_, _, _, rfl, rfl, SqL.of (same_new hl5 _ _ hl), SqL.of upd_same, _, rfl, ?_⟩⟩
      cases ws with
      | nil =>
        have W1 : Wds [] (6 + (i + 1)) := ⟨Nat.zero_le _, fun w hw => by cases hw⟩
        have hl7 := same_new (o := .lst []) hl5 _ _ hl
        refine iteF (⟨(same_set (sJ.free hl5) sJ), _, _, _, hl7, W1, rfl⟩)
      | cons w ws =>
        have hw0 : (w :: ws) ≠ [] := by intro z; cases z
        have h100 : 6 + i ≤ 100 := by omega
        refine iteT (⟨_, rfl, _, rfl, _, _, _, _, rfl, (same_new hl5 _ _ hl), hw0, hW, h100, fun l6 us J6 hl6 hW6 s6 => ⟨((same_set (sJ.free hl5) sJ).trans s6), _, _, _, hl6, hW6, rfl⟩⟩)
    rintro σ J ⟨sJ, l, ws, v3, hl, hW, rfl⟩
    have hW : Wds ws 8 := ⟨Nat.le_trans hW.1 (by rw [List.length_map]; omega), hW.2⟩
    have hlen := rows_wds hW (Nat.le_refl _)
    have egj : Txt.join (Str.ofString " ") ws = Str.join (sg 32) ws := by
      rw [show Txt.join (Str.ofString " ") ws = Str.join (Str.ofString " ") ws from StrLaws.glued_eq_join _ _, show Str.ofString " " = sg 32 from by decide +kernel]
    have bj : (ws.map fun x => x.length).sum + ws.length * (Str.ofString " ").length ≤ 16777216 := by
      have hs : (ws.map (·.length)).sum ≤ ws.length * 50 := sum_le hW.2
      have h1 := hW.1
      rw [show (Str.ofString " ").length = 1 from by decide +kernel]
      have : ws.length * 50 ≤ 8 * 50 := Nat.mul_le_mul_right _ (by omega)
      omega
    have q4J := sJ _ _ q4
    generalize hrow : Str.join (sg 32) ws = row at hlen egj
    have hrow2 : ∀ w, V.str row = .str w → w.length ≤ 1000 := fun w e => by cases e; omega
    have hrow3 : row.length ≤ 1000 := by omega
    have sHJ : Same H J := ((((s1.trans s2).trans s3).trans s4).trans sJ)
    refine ⟨rfl, _, rfl, _, _, _, rfl, rfl, SqL.of hl, bj, _, rfl, _, rfl, ?_, ?_, ?_⟩
    · rw [egj]; exact hrow3
    · intro n' p' q' f' d1 d2 d3 d4 hR t t2 H5 ht ht2 s5
      rw [egj] at hR ⊢
      dsimp only [gName]
      refine ⟨_, rfl, (by decide), (by decide), ?_⟩
      refine for_range (lo := 0) (n := 2) (fun i σ J2 => Same H5 J2 ∧ ∃ v6, σ = [some (.ref a), some (.ref t1), some (.ref l), v3, some (.str row), some (.ref t), v6, none]) ⟨Same.refl _, _, rfl⟩ ?_ ?_
      · rintro i σ J2 hi ⟨s6, v6, rfl⟩
        have ht6 := s6 _ _ ht
        have ht26 := s6 _ _ ht2
        dsimp only [gName]
        refine ⟨_, rfl, rfl, _, rfl, rdDn (fun z => nomatch z) (iteF (⟨_, rfl, rfl, _, rfl, rdNn (fun z => nomatch z) (⟨_, rfl, _, rfl, (Knd.str row), hrow2, ?_, ?_⟩)⟩))⟩
        · intro w n2 p2 q2 f2 e1 e2 e3 e4 e hR2 ta tb tc J3 ha hb hc s7
          cases e
          obtain ⟨rfl, rfl, rfl, rfl, rfl, rfl, rfl, rfl⟩ := row_fun hR hR2
          have ht7 := s7 _ _ ht6
          have ht27 := s7 _ _ ht26
          refine ⟨_, rfl, (by show (2 : Nat) ≤ sizeLine; decide), fun t8 ht8 => ⟨?_, _, rfl, iteF (⟨(same_set ((s6.trans s7).free ht8) (s6.trans s7)), _, rfl⟩)⟩⟩
          have fin : TopD K (upd J3 t8 (HO.tup [V.str (Str.ofString "told"), V.ref t])) (.ref ta) (.ref t8) := by
            have sx := same_new (o := HO.tup [V.str (Str.ofString "told"), V.ref t]) ht8
            refine ⟨3, ta, t8, _, _, rfl, rfl, by decide, ?_, .inl ⟨SqT.of (sx _ _ ha), SqT.of upd_same⟩, ?_⟩
            · rfl
            · exact pair_same (by rfl) (.tup (SqT.of (sx _ _ hb)) (SqT.of (sx _ _ ht7)) rfl (pair_same (by rfl) (.tup (SqT.of (sx _ _ hc)) (SqT.of (sx _ _ ht27)) rfl (same_self rfl))))
          exact fin
        · intro hno; exact absurd hR (hno _ _ _ _ _ _ _ _ _ rfl)
      · rintro σ J9 ⟨s9, v6, rfl⟩
        have hl9 := s9 _ _ (s5 _ _ hl)
        have lr1 : row.length + (Str.ofString "\n").length ≤ sizeLine := by rw [show (Str.ofString "\n").length = 1 from by decide +kernel]; exact Nat.le_trans (show row.length + 1 ≤ 2000 by omega) (by decide)
        have lr2 : (Str.ofString " ").length + row.length ≤ sizeLine := by rw [show (Str.ofString " ").length = 1 from by decide +kernel]; exact Nat.le_trans (show 1 + row.length ≤ 2000 by omega) (by decide)
        refine ⟨_, rfl, _, rfl, _, _, rfl, .inl (⟨SqL.of hl9, ?_⟩)⟩
        intro t10 ht10
        (have k1 := same_new (o := HO.tup (List.map V.str ws)) ht10; have y1 := upd_same (H := J9) (a := t10) (o := HO.tup (List.map V.str ws)); generalize upd J9 t10 (HO.tup (List.map V.str ws)) = K1' at k1 y1 ⊢)
        refine ⟨_, rfl, _, _, rfl, rfl, lr1, _, rfl, _, _, rfl, rfl, lr2, (by show (8 : Nat) ≤ sizeLine; decide), fun l11 hl11 => ⟨_, rfl, ⟨_, SqL.of upd_same⟩, ?_⟩⟩
        (have k2 := same_new (o := HO.lst [V.non, V.int 7, V.bl true, V.ref l, V.ref t10, V.str (row ++ Str.ofString "\n"), V.str (Str.ofString " " ++ row), V.str (Str.ofString "")]) hl11; have y2 := upd_same (H := K1') (a := l11) (o := HO.lst [V.non, V.int 7, V.bl true, V.ref l, V.ref t10, V.str (row ++ Str.ofString "\n"), V.str (Str.ofString " " ++ row), V.str (Str.ofString "")]); generalize upd K1' l11 (HO.lst [V.non, V.int 7, V.bl true, V.ref l, V.ref t10, V.str (row ++ Str.ofString "\n"), V.str (Str.ofString " " ++ row), V.str (Str.ofString "")]) = K2 at k2 y2 ⊢)
        have yl := k2 _ _ (k1 _ _ hl9)
        have yt := k2 _ _ y1
        have fl : (ws.map V.str).all flatV = true := by rw [List.all_map, List.all_eq_true]; exact fun _ _ => rfl
        have en : Str.ofString "\n" = sg 10 := by decide +kernel
        have eb : Str.ofString " " = sg 32 := by decide +kernel
        have ev : ∀ v ∈ [V.non, .int 7, .bl true, .ref l, .ref t10, .str (row ++ Str.ofString "\n"), .str (Str.ofString " " ++ row), .str (Str.ofString "")], Knd K2 v ∧ (∀ w, v = .str w → w.length ≤ 1000) ∧ ∀ w n p q f b1 b2 b3 b4, v = .str w → ¬ RowOf w n p q f b1 b2 b3 b4 := by
          intro v hv
          simp only [List.mem_cons, List.not_mem_nil, or_false] at hv
          rcases hv with rfl | rfl | rfl | rfl | rfl | rfl | rfl | rfl
          · exact ⟨.non, (fun w e => by cases e), fun w n p q f b1 b2 b3 b4 e => by cases e⟩
          · exact ⟨.int _, (fun w e => by cases e), fun w n p q f b1 b2 b3 b4 e => by cases e⟩
          · exact ⟨.bl _, (fun w e => by cases e), fun w n p q f b1 b2 b3 b4 e => by cases e⟩
          · exact ⟨.lst yl fl, (fun w e => by cases e), fun w n p q f b1 b2 b3 b4 e => by cases e⟩
          · exact ⟨.tup yt fl, (fun w e => by cases e), fun w n p q f b1 b2 b3 b4 e => by cases e⟩
          · refine ⟨.str _, (fun w e => ?_), fun w n p q f b1 b2 b3 b4 e => ?_⟩
            · cases e; rw [app_len, en, show (sg 10).length = 1 from rfl]; omega
            · cases e; rw [en]; exact no_row_line
          · refine ⟨.str _, (fun w e => ?_), fun w n p q f b1 b2 b3 b4 e => ?_⟩
            · cases e; rw [app_len, eb, show (sg 32).length = 1 from rfl]; omega
            · cases e; rw [eb]; exact no_row_blank
          · exact ⟨.str _, (fun w e => by cases e; decide +kernel), fun w n p q f b1 b2 b3 b4 e => by cases e; exact no_row_empty⟩
        generalize [V.non, .int 7, .bl true, .ref l, .ref t10, .str (row ++ Str.ofString "\n"), .str (Str.ofString " " ++ row), .str (Str.ofString "")] = xs at ev y2 ⊢
        refine for_list (K := K) (a := l11) (xs := xs) (fun i σ J => Same K2 J ∧ ∃ v0 v1 v2 v3 v4 v5 v6 v7, σ = [v0, v1, v2, v3, v4, v5, v6, v7]) ⟨Same.refl _, _, _, _, _, _, _, _, _, rfl⟩ (fun i σ J _ h => SqL.of (h.1 _ _ y2)) ?_ ?_
        · rintro i v σ J10 hi ⟨sx, v0, v1, v2, v3, v4, v5, v6, v7, rfl⟩
          obtain ⟨hk, hb, hno⟩ := ev v (List.mem_of_getElem? hi)
          have hk := hk.mono sx
          dsimp only [gName]
          refine ⟨_, rfl, _, rfl, hk, hb, ?_, ?_⟩
          · intro w n p q f b1 b2 b3 b4 e hR2; exact absurd hR2 (hno _ _ _ _ _ _ _ _ _ e)
          · intro _ t12 K3 z12 k3
            refine ⟨(by decide), fun t13 ht13 => ⟨_, _, _, _, rfl, rfl, SqT.of (same_new ht13 _ _ z12), SqT.of upd_same, rfl, rfl, _, rfl, iteF (⟨(same_set ((sx.trans k3).free ht13) (sx.trans k3)), _, _, _, _, _, _, _, _, rfl⟩)⟩⟩
        · rintro σ J10 ⟨sx, v0, v1, v2, v3, v4, v5, v6, v7, rfl⟩
          refine k _
    
    · intro hno H5 s5
      rw [egj] at hno ⊢
      dsimp only [gName]
      refine ⟨_, rfl, (by decide), (by decide), ?_⟩
      refine for_range (lo := 0) (n := 2) (fun i σ J2 => Same H5 J2 ∧ ∃ v6, σ = [some (.ref a), some (.ref t1), some (.ref l), v3, some (.str row), some .non, v6, none]) ⟨Same.refl _, _, rfl⟩ ?_ ?_
      · rintro i σ J2 hi ⟨s6, v6, rfl⟩
        dsimp only [gName]
        refine ⟨_, rfl, rfl, _, rfl, rdD rfl (⟨_, rfl, _, rfl, (Knd.str row), hrow2, ?_, ?_⟩)⟩
        · intro w n2 p2 q2 f2 e1 e2 e3 e4 e hR2
          cases e
          exact absurd hR2 (hno _ _ _ _ _ _ _ _)
        · intro _ ta J3 ha s7
          refine ⟨(by decide), fun t8 ht8 => ⟨_, _, _, _, rfl, rfl, SqT.of (same_new ht8 _ _ ha), SqT.of upd_same, rfl, rfl, _, rfl, iteF (⟨_, rfl, rfl, _, rfl, rdN rfl (iteF (⟨(same_set ((s6.trans s7).free ht8) (s6.trans s7)), _, rfl⟩))⟩)⟩⟩
      · rintro σ J9 ⟨s9, v6, rfl⟩
        have hl9 := s9 _ _ (s5 _ _ hl)
        have lr1 : row.length + (Str.ofString "\n").length ≤ sizeLine := by rw [show (Str.ofString "\n").length = 1 from by decide +kernel]; exact Nat.le_trans (show row.length + 1 ≤ 2000 by omega) (by decide)
        have lr2 : (Str.ofString " ").length + row.length ≤ sizeLine := by rw [show (Str.ofString " ").length = 1 from by decide +kernel]; exact Nat.le_trans (show 1 + row.length ≤ 2000 by omega) (by decide)
        refine ⟨_, rfl, _, rfl, _, _, rfl, .inl (⟨SqL.of hl9, ?_⟩)⟩
        intro t10 ht10
        (have k1 := same_new (o := HO.tup (List.map V.str ws)) ht10; have y1 := upd_same (H := J9) (a := t10) (o := HO.tup (List.map V.str ws)); generalize upd J9 t10 (HO.tup (List.map V.str ws)) = K1' at k1 y1 ⊢)
        refine ⟨_, rfl, _, _, rfl, rfl, lr1, _, rfl, _, _, rfl, rfl, lr2, (by show (8 : Nat) ≤ sizeLine; decide), fun l11 hl11 => ⟨_, rfl, ⟨_, SqL.of upd_same⟩, ?_⟩⟩
        (have k2 := same_new (o := HO.lst [V.non, V.int 7, V.bl true, V.ref l, V.ref t10, V.str (row ++ Str.ofString "\n"), V.str (Str.ofString " " ++ row), V.str (Str.ofString "")]) hl11; have y2 := upd_same (H := K1') (a := l11) (o := HO.lst [V.non, V.int 7, V.bl true, V.ref l, V.ref t10, V.str (row ++ Str.ofString "\n"), V.str (Str.ofString " " ++ row), V.str (Str.ofString "")]); generalize upd K1' l11 (HO.lst [V.non, V.int 7, V.bl true, V.ref l, V.ref t10, V.str (row ++ Str.ofString "\n"), V.str (Str.ofString " " ++ row), V.str (Str.ofString "")]) = K2 at k2 y2 ⊢)
        have yl := k2 _ _ (k1 _ _ hl9)
        have yt := k2 _ _ y1
        have fl : (ws.map V.str).all flatV = true := by rw [List.all_map, List.all_eq_true]; exact fun _ _ => rfl
        have en : Str.ofString "\n" = sg 10 := by decide +kernel
        have eb : Str.ofString " " = sg 32 := by decide +kernel
        have ev : ∀ v ∈ [V.non, .int 7, .bl true, .ref l, .ref t10, .str (row ++ Str.ofString "\n"), .str (Str.ofString " " ++ row), .str (Str.ofString "")], Knd K2 v ∧ (∀ w, v = .str w → w.length ≤ 1000) ∧ ∀ w n p q f b1 b2 b3 b4, v = .str w → ¬ RowOf w n p q f b1 b2 b3 b4 := by
          intro v hv
          simp only [List.mem_cons, List.not_mem_nil, or_false] at hv
          rcases hv with rfl | rfl | rfl | rfl | rfl | rfl | rfl | rfl
          · exact ⟨.non, (fun w e => by cases e), fun w n p q f b1 b2 b3 b4 e => by cases e⟩
          · exact ⟨.int _, (fun w e => by cases e), fun w n p q f b1 b2 b3 b4 e => by cases e⟩
          · exact ⟨.bl _, (fun w e => by cases e), fun w n p q f b1 b2 b3 b4 e => by cases e⟩
          · exact ⟨.lst yl fl, (fun w e => by cases e), fun w n p q f b1 b2 b3 b4 e => by cases e⟩
          · exact ⟨.tup yt fl, (fun w e => by cases e), fun w n p q f b1 b2 b3 b4 e => by cases e⟩
          · refine ⟨.str _, (fun w e => ?_), fun w n p q f b1 b2 b3 b4 e => ?_⟩
            · cases e; rw [app_len, en, show (sg 10).length = 1 from rfl]; omega
            · cases e; rw [en]; exact no_row_line
          · refine ⟨.str _, (fun w e => ?_), fun w n p q f b1 b2 b3 b4 e => ?_⟩
            · cases e; rw [app_len, eb, show (sg 32).length = 1 from rfl]; omega
            · cases e; rw [eb]; exact no_row_blank
          · exact ⟨.str _, (fun w e => by cases e; decide +kernel), fun w n p q f b1 b2 b3 b4 e => by cases e; exact no_row_empty⟩
        generalize [V.non, .int 7, .bl true, .ref l, .ref t10, .str (row ++ Str.ofString "\n"), .str (Str.ofString " " ++ row), .str (Str.ofString "")] = xs at ev y2 ⊢
        refine for_list (K := K) (a := l11) (xs := xs) (fun i σ J => Same K2 J ∧ ∃ v0 v1 v2 v3 v4 v5 v6 v7, σ = [v0, v1, v2, v3, v4, v5, v6, v7]) ⟨Same.refl _, _, _, _, _, _, _, _, _, rfl⟩ (fun i σ J _ h => SqL.of (h.1 _ _ y2)) ?_ ?_
        · rintro i v σ J10 hi ⟨sx, v0, v1, v2, v3, v4, v5, v6, v7, rfl⟩
          obtain ⟨hk, hb, hno⟩ := ev v (List.mem_of_getElem? hi)
          have hk := hk.mono sx
          dsimp only [gName]
          refine ⟨_, rfl, _, rfl, hk, hb, ?_, ?_⟩
          · intro w n p q f b1 b2 b3 b4 e hR2; exact absurd hR2 (hno _ _ _ _ _ _ _ _ _ e)
          · intro _ t12 K3 z12 k3
            refine ⟨(by decide), fun t13 ht13 => ⟨_, _, _, _, rfl, rfl, SqT.of (same_new ht13 _ _ z12), SqT.of upd_same, rfl, rfl, _, rfl, iteF (⟨(same_set ((sx.trans k3).free ht13) (sx.trans k3)), _, _, _, _, _, _, _, _, rfl⟩)⟩⟩
        · rintro σ J10 ⟨sx, v0, v1, v2, v3, v4, v5, v6, v7, rfl⟩
          refine k _
end
theorem all_mk {l : PySem.W.OpenLaw} {w : World} {K : PySem.W.Frag} {h : Heap} {mg : Str → Option Value} {fa f_NoName___init__ f_TooMany___init__ f_Broken___init__ f_is_printable f_are_unlike_signs f_Dialect___init__ f_Dialect_told f_dialect_of f_makes_dialect f_is_name f_signs_of_word f_truths_of_word f_dialect_in f__law_cell_at f__law_mixed f__law_number f__law_some f__law_menus f__law_told f__law_title f__law_row f__law_spoilt f__law_signs f__law_read f__law_asked f_law C_Dialect C_DialectError N_DialectError C_NoText N_NoText C_NoTable N_NoTable C_NoDialect N_NoDialect C_NoRow N_NoRow C_NoName N_NoName C_TooMany N_TooMany C_Broken N_Broken : Addr} {z_SMALL_LETTERS z_PRINTABLE : Str} {dt_Dialect___init__ : Addr} (X : K.In h) (G : h.Ns mainGlobals mg) (hfa : mg "law" = some (.ref fa))
    (aC_Dialect : PySem.W.nsIn K mainGlobals "Dialect" = some (some (.ref C_Dialect)))
    (aX_DialectError : PySem.W.nsIn K mainGlobals "DialectError" = some (some (.ref C_DialectError)))
    (aX_NoText : PySem.W.nsIn K mainGlobals "NoText" = some (some (.ref C_NoText)))
    (aX_NoTable : PySem.W.nsIn K mainGlobals "NoTable" = some (some (.ref C_NoTable)))
    (aX_NoDialect : PySem.W.nsIn K mainGlobals "NoDialect" = some (some (.ref C_NoDialect)))
    (aX_NoRow : PySem.W.nsIn K mainGlobals "NoRow" = some (some (.ref C_NoRow)))
    (aX_NoName : PySem.W.nsIn K mainGlobals "NoName" = some (some (.ref C_NoName)))
    (aX_TooMany : PySem.W.nsIn K mainGlobals "TooMany" = some (some (.ref C_TooMany)))
    (aX_Broken : PySem.W.nsIn K mainGlobals "Broken" = some (some (.ref C_Broken)))
    {od0 an0 : Option Addr} {sl0 : Array (Option Value)} {oc0 kV0 dc0 pm0 cd0 ct0 : Value}
    (l0 : K.lookup f_NoName___init__ = some ⟨oc0, od0, .func (PySem.W.fnOf "__init__" "NoName.__init__" (defArgs s_NoName___init__) (defBody s_NoName___init__) (defScope s_NoName___init__) .none kV0 dc0 pm0 an0 cd0 ct0), sl0⟩) (c0 : PySem.W.codeIn K cd0 "NoName.__init__" = true) (k0 : PySem.W.keepIn K (.ref f_NoName___init__) = true)
    {od1 an1 : Option Addr} {sl1 : Array (Option Value)} {oc1 kV1 dc1 pm1 cd1 ct1 : Value}
    (l1 : K.lookup f_TooMany___init__ = some ⟨oc1, od1, .func (PySem.W.fnOf "__init__" "TooMany.__init__" (defArgs s_TooMany___init__) (defBody s_TooMany___init__) (defScope s_TooMany___init__) .none kV1 dc1 pm1 an1 cd1 ct1), sl1⟩) (c1 : PySem.W.codeIn K cd1 "TooMany.__init__" = true) (k1 : PySem.W.keepIn K (.ref f_TooMany___init__) = true)
    {od2 an2 : Option Addr} {sl2 : Array (Option Value)} {oc2 kV2 dc2 pm2 cd2 ct2 : Value}
    (l2 : K.lookup f_Broken___init__ = some ⟨oc2, od2, .func (PySem.W.fnOf "__init__" "Broken.__init__" (defArgs s_Broken___init__) (defBody s_Broken___init__) (defScope s_Broken___init__) .none kV2 dc2 pm2 an2 cd2 ct2), sl2⟩) (c2 : PySem.W.codeIn K cd2 "Broken.__init__" = true) (k2 : PySem.W.keepIn K (.ref f_Broken___init__) = true)
    {od3 an3 : Option Addr} {sl3 : Array (Option Value)} {oc3 kV3 dc3 pm3 cd3 ct3 : Value}
    (a3 : PySem.W.nsIn K mainGlobals "is_printable" = some (some (.ref f_is_printable)))
    (l3 : K.lookup f_is_printable = some ⟨oc3, od3, .func (PySem.W.fnOf "is_printable" "is_printable" (defArgs s_is_printable) (defBody s_is_printable) (defScope s_is_printable) .none kV3 dc3 pm3 an3 cd3 ct3), sl3⟩) (c3 : PySem.W.codeIn K cd3 "is_printable" = true) (k3 : PySem.W.keepIn K (.ref f_is_printable) = true)
    {od4 an4 : Option Addr} {sl4 : Array (Option Value)} {oc4 kV4 dc4 pm4 cd4 ct4 : Value}
    (a4 : PySem.W.nsIn K mainGlobals "are_unlike_signs" = some (some (.ref f_are_unlike_signs)))
    (l4 : K.lookup f_are_unlike_signs = some ⟨oc4, od4, .func (PySem.W.fnOf "are_unlike_signs" "are_unlike_signs" (defArgs s_are_unlike_signs) (defBody s_are_unlike_signs) (defScope s_are_unlike_signs) .none kV4 dc4 pm4 an4 cd4 ct4), sl4⟩) (c4 : PySem.W.codeIn K cd4 "are_unlike_signs" = true) (k4 : PySem.W.keepIn K (.ref f_are_unlike_signs) = true)
    {od5 an5 : Option Addr} {sl5 : Array (Option Value)} {oc5 kV5 dc5 pm5 cd5 ct5 : Value}
    (a5 : PySem.W.findIn K (.ref C_Dialect) "__init__" = some (some (.ref f_Dialect___init__))) (i5 : PySem.W.isFn K (.ref f_Dialect___init__) = true)
    (l5 : K.lookup f_Dialect___init__ = some ⟨oc5, od5, .func (PySem.W.fnOf "__init__" "Dialect.__init__" (defArgs s_Dialect___init__) (defBody s_Dialect___init__) (defScope s_Dialect___init__) (.ref dt_Dialect___init__) kV5 dc5 pm5 an5 cd5 ct5), sl5⟩) (c5 : PySem.W.codeIn K cd5 "Dialect.__init__" = true) (k5 : PySem.W.keepIn K (.ref f_Dialect___init__) = true)
    {od_d5 : Option Addr} {n_d5 : Nat} {sl_d5 : Array (Option Value)} {td5_0 td5_1 : Tok} (d5 : K.lookup dt_Dialect___init__ = some ⟨.type "tuple", od_d5, .seq #[.str (Str.ofString "") td5_0, .str (Str.ofString "") td5_1, .bool false, .bool false, .bool false, .bool false] n_d5, sl_d5⟩)
    {od6 an6 : Option Addr} {sl6 : Array (Option Value)} {oc6 kV6 dc6 pm6 cd6 ct6 : Value}
    (a6 : PySem.W.findIn K (.ref C_Dialect) "told" = some (some (.ref f_Dialect_told))) (i6 : PySem.W.isFn K (.ref f_Dialect_told) = true)
    (l6 : K.lookup f_Dialect_told = some ⟨oc6, od6, .func (PySem.W.fnOf "told" "Dialect.told" (defArgs s_Dialect_told) (defBody s_Dialect_told) (defScope s_Dialect_told) .none kV6 dc6 pm6 an6 cd6 ct6), sl6⟩) (c6 : PySem.W.codeIn K cd6 "Dialect.told" = true) (k6 : PySem.W.keepIn K (.ref f_Dialect_told) = true)
    {od7 an7 : Option Addr} {sl7 : Array (Option Value)} {oc7 kV7 dc7 pm7 cd7 ct7 : Value}
    (a7 : PySem.W.nsIn K mainGlobals "dialect_of" = some (some (.ref f_dialect_of)))
    (l7 : K.lookup f_dialect_of = some ⟨oc7, od7, .func (PySem.W.fnOf "dialect_of" "dialect_of" (defArgs s_dialect_of) (defBody s_dialect_of) (defScope s_dialect_of) .none kV7 dc7 pm7 an7 cd7 ct7), sl7⟩) (c7 : PySem.W.codeIn K cd7 "dialect_of" = true) (k7 : PySem.W.keepIn K (.ref f_dialect_of) = true)
    {od8 an8 : Option Addr} {sl8 : Array (Option Value)} {oc8 kV8 dc8 pm8 cd8 ct8 : Value}
    (a8 : PySem.W.nsIn K mainGlobals "makes_dialect" = some (some (.ref f_makes_dialect)))
    (l8 : K.lookup f_makes_dialect = some ⟨oc8, od8, .func (PySem.W.fnOf "makes_dialect" "makes_dialect" (defArgs s_makes_dialect) (defBody s_makes_dialect) (defScope s_makes_dialect) .none kV8 dc8 pm8 an8 cd8 ct8), sl8⟩) (c8 : PySem.W.codeIn K cd8 "makes_dialect" = true) (k8 : PySem.W.keepIn K (.ref f_makes_dialect) = true)
    {od9 an9 : Option Addr} {sl9 : Array (Option Value)} {oc9 kV9 dc9 pm9 cd9 ct9 : Value}
    (a9 : PySem.W.nsIn K mainGlobals "is_name" = some (some (.ref f_is_name)))
    (l9 : K.lookup f_is_name = some ⟨oc9, od9, .func (PySem.W.fnOf "is_name" "is_name" (defArgs s_is_name) (defBody s_is_name) (defScope s_is_name) .none kV9 dc9 pm9 an9 cd9 ct9), sl9⟩) (c9 : PySem.W.codeIn K cd9 "is_name" = true) (k9 : PySem.W.keepIn K (.ref f_is_name) = true)
    {od10 an10 : Option Addr} {sl10 : Array (Option Value)} {oc10 kV10 dc10 pm10 cd10 ct10 : Value}
    (a10 : PySem.W.nsIn K mainGlobals "signs_of_word" = some (some (.ref f_signs_of_word)))
    (l10 : K.lookup f_signs_of_word = some ⟨oc10, od10, .func (PySem.W.fnOf "signs_of_word" "signs_of_word" (defArgs s_signs_of_word) (defBody s_signs_of_word) (defScope s_signs_of_word) .none kV10 dc10 pm10 an10 cd10 ct10), sl10⟩) (c10 : PySem.W.codeIn K cd10 "signs_of_word" = true) (k10 : PySem.W.keepIn K (.ref f_signs_of_word) = true)
    {od11 an11 : Option Addr} {sl11 : Array (Option Value)} {oc11 kV11 dc11 pm11 cd11 ct11 : Value}
    (a11 : PySem.W.nsIn K mainGlobals "truths_of_word" = some (some (.ref f_truths_of_word)))
    (l11 : K.lookup f_truths_of_word = some ⟨oc11, od11, .func (PySem.W.fnOf "truths_of_word" "truths_of_word" (defArgs s_truths_of_word) (defBody s_truths_of_word) (defScope s_truths_of_word) .none kV11 dc11 pm11 an11 cd11 ct11), sl11⟩) (c11 : PySem.W.codeIn K cd11 "truths_of_word" = true) (k11 : PySem.W.keepIn K (.ref f_truths_of_word) = true)
    {od12 an12 : Option Addr} {sl12 : Array (Option Value)} {oc12 kV12 dc12 pm12 cd12 ct12 : Value}
    (a12 : PySem.W.nsIn K mainGlobals "dialect_in" = some (some (.ref f_dialect_in)))
    (l12 : K.lookup f_dialect_in = some ⟨oc12, od12, .func (PySem.W.fnOf "dialect_in" "dialect_in" (defArgs s_dialect_in) (defBody s_dialect_in) (defScope s_dialect_in) .none kV12 dc12 pm12 an12 cd12 ct12), sl12⟩) (c12 : PySem.W.codeIn K cd12 "dialect_in" = true) (k12 : PySem.W.keepIn K (.ref f_dialect_in) = true)
    {od13 an13 : Option Addr} {sl13 : Array (Option Value)} {oc13 kV13 dc13 pm13 cd13 ct13 : Value}
    (a13 : PySem.W.nsIn K mainGlobals "_law_cell_at" = some (some (.ref f__law_cell_at)))
    (l13 : K.lookup f__law_cell_at = some ⟨oc13, od13, .func (PySem.W.fnOf "_law_cell_at" "_law_cell_at" (defArgs s__law_cell_at) (defBody s__law_cell_at) (defScope s__law_cell_at) .none kV13 dc13 pm13 an13 cd13 ct13), sl13⟩) (c13 : PySem.W.codeIn K cd13 "_law_cell_at" = true) (k13 : PySem.W.keepIn K (.ref f__law_cell_at) = true)
    {od14 an14 : Option Addr} {sl14 : Array (Option Value)} {oc14 kV14 dc14 pm14 cd14 ct14 : Value}
    (a14 : PySem.W.nsIn K mainGlobals "_law_mixed" = some (some (.ref f__law_mixed)))
    (l14 : K.lookup f__law_mixed = some ⟨oc14, od14, .func (PySem.W.fnOf "_law_mixed" "_law_mixed" (defArgs s__law_mixed) (defBody s__law_mixed) (defScope s__law_mixed) .none kV14 dc14 pm14 an14 cd14 ct14), sl14⟩) (c14 : PySem.W.codeIn K cd14 "_law_mixed" = true) (k14 : PySem.W.keepIn K (.ref f__law_mixed) = true)
    {od15 an15 : Option Addr} {sl15 : Array (Option Value)} {oc15 kV15 dc15 pm15 cd15 ct15 : Value}
    (a15 : PySem.W.nsIn K mainGlobals "_law_number" = some (some (.ref f__law_number)))
    (l15 : K.lookup f__law_number = some ⟨oc15, od15, .func (PySem.W.fnOf "_law_number" "_law_number" (defArgs s__law_number) (defBody s__law_number) (defScope s__law_number) .none kV15 dc15 pm15 an15 cd15 ct15), sl15⟩) (c15 : PySem.W.codeIn K cd15 "_law_number" = true) (k15 : PySem.W.keepIn K (.ref f__law_number) = true)
    {od16 an16 : Option Addr} {sl16 : Array (Option Value)} {oc16 kV16 dc16 pm16 cd16 ct16 : Value}
    (a16 : PySem.W.nsIn K mainGlobals "_law_some" = some (some (.ref f__law_some)))
    (l16 : K.lookup f__law_some = some ⟨oc16, od16, .func (PySem.W.fnOf "_law_some" "_law_some" (defArgs s__law_some) (defBody s__law_some) (defScope s__law_some) .none kV16 dc16 pm16 an16 cd16 ct16), sl16⟩) (c16 : PySem.W.codeIn K cd16 "_law_some" = true) (k16 : PySem.W.keepIn K (.ref f__law_some) = true)
    {od17 an17 : Option Addr} {sl17 : Array (Option Value)} {oc17 kV17 dc17 pm17 cd17 ct17 : Value}
    (a17 : PySem.W.nsIn K mainGlobals "_law_menus" = some (some (.ref f__law_menus)))
    (l17 : K.lookup f__law_menus = some ⟨oc17, od17, .func (PySem.W.fnOf "_law_menus" "_law_menus" (defArgs s__law_menus) (defBody s__law_menus) (defScope s__law_menus) .none kV17 dc17 pm17 an17 cd17 ct17), sl17⟩) (c17 : PySem.W.codeIn K cd17 "_law_menus" = true) (k17 : PySem.W.keepIn K (.ref f__law_menus) = true)
    {od18 an18 : Option Addr} {sl18 : Array (Option Value)} {oc18 kV18 dc18 pm18 cd18 ct18 : Value}
    (a18 : PySem.W.nsIn K mainGlobals "_law_told" = some (some (.ref f__law_told)))
    (l18 : K.lookup f__law_told = some ⟨oc18, od18, .func (PySem.W.fnOf "_law_told" "_law_told" (defArgs s__law_told) (defBody s__law_told) (defScope s__law_told) .none kV18 dc18 pm18 an18 cd18 ct18), sl18⟩) (c18 : PySem.W.codeIn K cd18 "_law_told" = true) (k18 : PySem.W.keepIn K (.ref f__law_told) = true)
    {od19 an19 : Option Addr} {sl19 : Array (Option Value)} {oc19 kV19 dc19 pm19 cd19 ct19 : Value}
    (a19 : PySem.W.nsIn K mainGlobals "_law_title" = some (some (.ref f__law_title)))
    (l19 : K.lookup f__law_title = some ⟨oc19, od19, .func (PySem.W.fnOf "_law_title" "_law_title" (defArgs s__law_title) (defBody s__law_title) (defScope s__law_title) .none kV19 dc19 pm19 an19 cd19 ct19), sl19⟩) (c19 : PySem.W.codeIn K cd19 "_law_title" = true) (k19 : PySem.W.keepIn K (.ref f__law_title) = true)
    {od20 an20 : Option Addr} {sl20 : Array (Option Value)} {oc20 kV20 dc20 pm20 cd20 ct20 : Value}
    (a20 : PySem.W.nsIn K mainGlobals "_law_row" = some (some (.ref f__law_row)))
    (l20 : K.lookup f__law_row = some ⟨oc20, od20, .func (PySem.W.fnOf "_law_row" "_law_row" (defArgs s__law_row) (defBody s__law_row) (defScope s__law_row) .none kV20 dc20 pm20 an20 cd20 ct20), sl20⟩) (c20 : PySem.W.codeIn K cd20 "_law_row" = true) (k20 : PySem.W.keepIn K (.ref f__law_row) = true)
    {od21 an21 : Option Addr} {sl21 : Array (Option Value)} {oc21 kV21 dc21 pm21 cd21 ct21 : Value}
    (a21 : PySem.W.nsIn K mainGlobals "_law_spoilt" = some (some (.ref f__law_spoilt)))
    (l21 : K.lookup f__law_spoilt = some ⟨oc21, od21, .func (PySem.W.fnOf "_law_spoilt" "_law_spoilt" (defArgs s__law_spoilt) (defBody s__law_spoilt) (defScope s__law_spoilt) .none kV21 dc21 pm21 an21 cd21 ct21), sl21⟩) (c21 : PySem.W.codeIn K cd21 "_law_spoilt" = true) (k21 : PySem.W.keepIn K (.ref f__law_spoilt) = true)
    {od22 an22 : Option Addr} {sl22 : Array (Option Value)} {oc22 kV22 dc22 pm22 cd22 ct22 : Value}
    (a22 : PySem.W.nsIn K mainGlobals "_law_signs" = some (some (.ref f__law_signs)))
    (l22 : K.lookup f__law_signs = some ⟨oc22, od22, .func (PySem.W.fnOf "_law_signs" "_law_signs" (defArgs s__law_signs) (defBody s__law_signs) (defScope s__law_signs) .none kV22 dc22 pm22 an22 cd22 ct22), sl22⟩) (c22 : PySem.W.codeIn K cd22 "_law_signs" = true) (k22 : PySem.W.keepIn K (.ref f__law_signs) = true)
    {od23 an23 : Option Addr} {sl23 : Array (Option Value)} {oc23 kV23 dc23 pm23 cd23 ct23 : Value}
    (a23 : PySem.W.nsIn K mainGlobals "_law_read" = some (some (.ref f__law_read)))
    (l23 : K.lookup f__law_read = some ⟨oc23, od23, .func (PySem.W.fnOf "_law_read" "_law_read" (defArgs s__law_read) (defBody s__law_read) (defScope s__law_read) .none kV23 dc23 pm23 an23 cd23 ct23), sl23⟩) (c23 : PySem.W.codeIn K cd23 "_law_read" = true) (k23 : PySem.W.keepIn K (.ref f__law_read) = true)
    {od24 an24 : Option Addr} {sl24 : Array (Option Value)} {oc24 kV24 dc24 pm24 cd24 ct24 : Value}
    (a24 : PySem.W.nsIn K mainGlobals "_law_asked" = some (some (.ref f__law_asked)))
    (l24 : K.lookup f__law_asked = some ⟨oc24, od24, .func (PySem.W.fnOf "_law_asked" "_law_asked" (defArgs s__law_asked) (defBody s__law_asked) (defScope s__law_asked) .none kV24 dc24 pm24 an24 cd24 ct24), sl24⟩) (c24 : PySem.W.codeIn K cd24 "_law_asked" = true) (k24 : PySem.W.keepIn K (.ref f__law_asked) = true)
    {od25 an25 : Option Addr} {sl25 : Array (Option Value)} {oc25 kV25 dc25 pm25 cd25 ct25 : Value}
    (a25 : PySem.W.nsIn K mainGlobals "law" = some (some (.ref f_law)))
    (l25 : K.lookup f_law = some ⟨oc25, od25, .func (PySem.W.fnOf "law" "law" (defArgs s_law) (defBody s_law) (defScope s_law) .none kV25 dc25 pm25 an25 cd25 ct25), sl25⟩) (c25 : PySem.W.codeIn K cd25 "law" = true) (k25 : PySem.W.keepIn K (.ref f_law) = true)
    (pg_Dialect : PySem.W.plainGet K C_Dialect Str.empty = true) (hd_Dialect : PySem.W.hasDictIn K C_Dialect = true) (po_Dialect : PySem.W.plainOver K C_Dialect = true) (sa_Dialect : PySem.W.findIn K (.ref C_Dialect) "__setattr__" = some (some (.builtin "object.__setattr__"))) (mk_Dialect : PySem.W.makesIn K C_Dialect = true) (kc_Dialect : PySem.W.keepIn K (.ref C_Dialect) = true)
    (n_Dialect_parts : PySem.W.findIn K (.ref C_Dialect) "parts" = some none)
    (n_Dialect_quotes : PySem.W.findIn K (.ref C_Dialect) "quotes" = some none)
    (n_Dialect_frees : PySem.W.findIn K (.ref C_Dialect) "frees" = some none)
    (n_Dialect_twin : PySem.W.findIn K (.ref C_Dialect) "twin" = some none)
    (n_Dialect_wide : PySem.W.findIn K (.ref C_Dialect) "wide" = some none)
    (n_Dialect_thin : PySem.W.findIn K (.ref C_Dialect) "thin" = some none)
    (n_Dialect_stray : PySem.W.findIn K (.ref C_Dialect) "stray" = some none)
    {nm_DialectError qx_DialectError : Str} {bs_DialectError sub_DialectError : List Value} {hd_xDialectError ab_DialectError : Bool} {sn_DialectError : List Str} {col_DialectError : Option Bool} {dd_DialectError odn_DialectError : Option Addr} {k0_DialectError k1_DialectError k2_DialectError k3_DialectError k5_DialectError : Option Value} {ocn_DialectError : Value} {esn_DialectError : Array DictEntry} {nn_DialectError : Nat} {sln_DialectError : Array (Option Value)}
    (ox_DialectError : K.lookup C_DialectError = some (excClassObj nm_DialectError qx_DialectError C_DialectError N_DialectError bs_DialectError bmVE hd_xDialectError sn_DialectError sub_DialectError ab_DialectError col_DialectError dd_DialectError k0_DialectError k1_DialectError k2_DialectError k3_DialectError k5_DialectError "ValueError.__new__"))
    (nx_DialectError : K.lookup N_DialectError = some ⟨ocn_DialectError, odn_DialectError, .dict esn_DialectError nn_DialectError, sln_DialectError⟩) (w_ax_DialectError : (esn_DialectError.toList.all fun e => match e.key with | .str _ _ => true | _ => false) = true) (ix_DialectError : PySem.W.nsIn K N_DialectError "__init__" = some none)
    (xs_DialectError : PySem.W.specialIn K (.ref C_DialectError) "__getattribute__" = some (some (.builtin "type.__getattribute__"))) (xr_DialectError : PySem.W.readsIn K C_DialectError (.type "type") = true) (xc_DialectError : PySem.W.findCls K (.ref C_DialectError) (.type "type") "__init__" = some (.val (.builtin "ValueError.__init__")))
    {nm_NoText qx_NoText : Str} {bs_NoText sub_NoText : List Value} {hd_xNoText ab_NoText : Bool} {sn_NoText : List Str} {col_NoText : Option Bool} {dd_NoText odn_NoText : Option Addr} {k0_NoText k1_NoText k2_NoText k3_NoText k5_NoText : Option Value} {ocn_NoText : Value} {esn_NoText : Array DictEntry} {nn_NoText : Nat} {sln_NoText : Array (Option Value)}
    (ox_NoText : K.lookup C_NoText = some (excClassObj nm_NoText qx_NoText C_NoText N_NoText bs_NoText (.ref C_DialectError :: bmVE) hd_xNoText sn_NoText sub_NoText ab_NoText col_NoText dd_NoText k0_NoText k1_NoText k2_NoText k3_NoText k5_NoText "ValueError.__new__"))
    (nx_NoText : K.lookup N_NoText = some ⟨ocn_NoText, odn_NoText, .dict esn_NoText nn_NoText, sln_NoText⟩) (w_ax_NoText : (esn_NoText.toList.all fun e => match e.key with | .str _ _ => true | _ => false) = true) (ix_NoText : PySem.W.nsIn K N_NoText "__init__" = some none)
    {nm_NoTable qx_NoTable : Str} {bs_NoTable sub_NoTable : List Value} {hd_xNoTable ab_NoTable : Bool} {sn_NoTable : List Str} {col_NoTable : Option Bool} {dd_NoTable odn_NoTable : Option Addr} {k0_NoTable k1_NoTable k2_NoTable k3_NoTable k5_NoTable : Option Value} {ocn_NoTable : Value} {esn_NoTable : Array DictEntry} {nn_NoTable : Nat} {sln_NoTable : Array (Option Value)}
    (ox_NoTable : K.lookup C_NoTable = some (excClassObj nm_NoTable qx_NoTable C_NoTable N_NoTable bs_NoTable (.ref C_DialectError :: bmVE) hd_xNoTable sn_NoTable sub_NoTable ab_NoTable col_NoTable dd_NoTable k0_NoTable k1_NoTable k2_NoTable k3_NoTable k5_NoTable "ValueError.__new__"))
    (nx_NoTable : K.lookup N_NoTable = some ⟨ocn_NoTable, odn_NoTable, .dict esn_NoTable nn_NoTable, sln_NoTable⟩) (w_ax_NoTable : (esn_NoTable.toList.all fun e => match e.key with | .str _ _ => true | _ => false) = true) (ix_NoTable : PySem.W.nsIn K N_NoTable "__init__" = some none)
    {nm_NoDialect qx_NoDialect : Str} {bs_NoDialect sub_NoDialect : List Value} {hd_xNoDialect ab_NoDialect : Bool} {sn_NoDialect : List Str} {col_NoDialect : Option Bool} {dd_NoDialect odn_NoDialect : Option Addr} {k0_NoDialect k1_NoDialect k2_NoDialect k3_NoDialect k5_NoDialect : Option Value} {ocn_NoDialect : Value} {esn_NoDialect : Array DictEntry} {nn_NoDialect : Nat} {sln_NoDialect : Array (Option Value)}
    (ox_NoDialect : K.lookup C_NoDialect = some (excClassObj nm_NoDialect qx_NoDialect C_NoDialect N_NoDialect bs_NoDialect (.ref C_DialectError :: bmVE) hd_xNoDialect sn_NoDialect sub_NoDialect ab_NoDialect col_NoDialect dd_NoDialect k0_NoDialect k1_NoDialect k2_NoDialect k3_NoDialect k5_NoDialect "ValueError.__new__"))
    (nx_NoDialect : K.lookup N_NoDialect = some ⟨ocn_NoDialect, odn_NoDialect, .dict esn_NoDialect nn_NoDialect, sln_NoDialect⟩) (w_ax_NoDialect : (esn_NoDialect.toList.all fun e => match e.key with | .str _ _ => true | _ => false) = true) (ix_NoDialect : PySem.W.nsIn K N_NoDialect "__init__" = some none)
    {nm_NoRow qx_NoRow : Str} {bs_NoRow sub_NoRow : List Value} {hd_xNoRow ab_NoRow : Bool} {sn_NoRow : List Str} {col_NoRow : Option Bool} {dd_NoRow odn_NoRow : Option Addr} {k0_NoRow k1_NoRow k2_NoRow k3_NoRow k5_NoRow : Option Value} {ocn_NoRow : Value} {esn_NoRow : Array DictEntry} {nn_NoRow : Nat} {sln_NoRow : Array (Option Value)}
    (ox_NoRow : K.lookup C_NoRow = some (excClassObj nm_NoRow qx_NoRow C_NoRow N_NoRow bs_NoRow (.ref C_DialectError :: bmVE) hd_xNoRow sn_NoRow sub_NoRow ab_NoRow col_NoRow dd_NoRow k0_NoRow k1_NoRow k2_NoRow k3_NoRow k5_NoRow "ValueError.__new__"))
    (nx_NoRow : K.lookup N_NoRow = some ⟨ocn_NoRow, odn_NoRow, .dict esn_NoRow nn_NoRow, sln_NoRow⟩) (w_ax_NoRow : (esn_NoRow.toList.all fun e => match e.key with | .str _ _ => true | _ => false) = true) (ix_NoRow : PySem.W.nsIn K N_NoRow "__init__" = some none)
    {nm_NoName qx_NoName : Str} {bs_NoName sub_NoName : List Value} {hd_xNoName ab_NoName : Bool} {sn_NoName : List Str} {col_NoName : Option Bool} {dd_NoName odn_NoName : Option Addr} {k0_NoName k1_NoName k2_NoName k3_NoName k5_NoName : Option Value} {ocn_NoName : Value} {esn_NoName : Array DictEntry} {nn_NoName : Nat} {sln_NoName : Array (Option Value)}
    (ox_NoName : K.lookup C_NoName = some (excClassObj nm_NoName qx_NoName C_NoName N_NoName bs_NoName (.ref C_DialectError :: bmVE) hd_xNoName sn_NoName sub_NoName ab_NoName col_NoName dd_NoName k0_NoName k1_NoName k2_NoName k3_NoName k5_NoName "ValueError.__new__"))
    (nx_NoName : K.lookup N_NoName = some ⟨ocn_NoName, odn_NoName, .dict esn_NoName nn_NoName, sln_NoName⟩) (w_ax_NoName : (esn_NoName.toList.all fun e => match e.key with | .str _ _ => true | _ => false) = true) (ix_NoName : PySem.W.nsIn K N_NoName "__init__" = some (some (.ref f_NoName___init__)))
    {odx_NoName : Option Addr} {dtx_NoName : Data} {slx_NoName : Array (Option Value)} (kx_NoName : PySem.W.keepIn K (.ref C_NoName) = true) (lx_NoName : K.lookup f_NoName___init__ = some ⟨.type "function", odx_NoName, dtx_NoName, slx_NoName⟩) (xsa_NoName : PySem.W.findIn K (.ref C_NoName) "__setattr__" = some (some (.builtin "object.__setattr__"))) (xga_NoName : PySem.W.findIn K (.ref C_NoName) "__getattribute__" = some (some (.builtin "BaseException.__getattribute__"))) (xgx_NoName : PySem.W.findIn K (.ref C_NoName) "__getattr__" = some none) (xhd_NoName : PySem.W.hasDictIn K C_NoName = true)
    (xn_NoName_name : PySem.W.findIn K (.ref C_NoName) "name" = some none)
    {nm_TooMany qx_TooMany : Str} {bs_TooMany sub_TooMany : List Value} {hd_xTooMany ab_TooMany : Bool} {sn_TooMany : List Str} {col_TooMany : Option Bool} {dd_TooMany odn_TooMany : Option Addr} {k0_TooMany k1_TooMany k2_TooMany k3_TooMany k5_TooMany : Option Value} {ocn_TooMany : Value} {esn_TooMany : Array DictEntry} {nn_TooMany : Nat} {sln_TooMany : Array (Option Value)}
    (ox_TooMany : K.lookup C_TooMany = some (excClassObj nm_TooMany qx_TooMany C_TooMany N_TooMany bs_TooMany (.ref C_DialectError :: bmVE) hd_xTooMany sn_TooMany sub_TooMany ab_TooMany col_TooMany dd_TooMany k0_TooMany k1_TooMany k2_TooMany k3_TooMany k5_TooMany "ValueError.__new__"))
    (nx_TooMany : K.lookup N_TooMany = some ⟨ocn_TooMany, odn_TooMany, .dict esn_TooMany nn_TooMany, sln_TooMany⟩) (w_ax_TooMany : (esn_TooMany.toList.all fun e => match e.key with | .str _ _ => true | _ => false) = true) (ix_TooMany : PySem.W.nsIn K N_TooMany "__init__" = some (some (.ref f_TooMany___init__)))
    {odx_TooMany : Option Addr} {dtx_TooMany : Data} {slx_TooMany : Array (Option Value)} (kx_TooMany : PySem.W.keepIn K (.ref C_TooMany) = true) (lx_TooMany : K.lookup f_TooMany___init__ = some ⟨.type "function", odx_TooMany, dtx_TooMany, slx_TooMany⟩) (xsa_TooMany : PySem.W.findIn K (.ref C_TooMany) "__setattr__" = some (some (.builtin "object.__setattr__"))) (xga_TooMany : PySem.W.findIn K (.ref C_TooMany) "__getattribute__" = some (some (.builtin "BaseException.__getattribute__"))) (xgx_TooMany : PySem.W.findIn K (.ref C_TooMany) "__getattr__" = some none) (xhd_TooMany : PySem.W.hasDictIn K C_TooMany = true)
    (xn_TooMany_most : PySem.W.findIn K (.ref C_TooMany) "most" = some none)
    {nm_Broken qx_Broken : Str} {bs_Broken sub_Broken : List Value} {hd_xBroken ab_Broken : Bool} {sn_Broken : List Str} {col_Broken : Option Bool} {dd_Broken odn_Broken : Option Addr} {k0_Broken k1_Broken k2_Broken k3_Broken k5_Broken : Option Value} {ocn_Broken : Value} {esn_Broken : Array DictEntry} {nn_Broken : Nat} {sln_Broken : Array (Option Value)}
    (ox_Broken : K.lookup C_Broken = some (excClassObj nm_Broken qx_Broken C_Broken N_Broken bs_Broken (.ref C_DialectError :: bmVE) hd_xBroken sn_Broken sub_Broken ab_Broken col_Broken dd_Broken k0_Broken k1_Broken k2_Broken k3_Broken k5_Broken "ValueError.__new__"))
    (nx_Broken : K.lookup N_Broken = some ⟨ocn_Broken, odn_Broken, .dict esn_Broken nn_Broken, sln_Broken⟩) (w_ax_Broken : (esn_Broken.toList.all fun e => match e.key with | .str _ _ => true | _ => false) = true) (ix_Broken : PySem.W.nsIn K N_Broken "__init__" = some (some (.ref f_Broken___init__)))
    {odx_Broken : Option Addr} {dtx_Broken : Data} {slx_Broken : Array (Option Value)} (kx_Broken : PySem.W.keepIn K (.ref C_Broken) = true) (lx_Broken : K.lookup f_Broken___init__ = some ⟨.type "function", odx_Broken, dtx_Broken, slx_Broken⟩) (xsa_Broken : PySem.W.findIn K (.ref C_Broken) "__setattr__" = some (some (.builtin "object.__setattr__"))) (xga_Broken : PySem.W.findIn K (.ref C_Broken) "__getattribute__" = some (some (.builtin "BaseException.__getattribute__"))) (xgx_Broken : PySem.W.findIn K (.ref C_Broken) "__getattr__" = some none) (xhd_Broken : PySem.W.hasDictIn K C_Broken = true)
    (xn_Broken_row : PySem.W.findIn K (.ref C_Broken) "row" = some none)
    (xn_Broken_place : PySem.W.findIn K (.ref C_Broken) "place" = some none)
    (xn_Broken_word : PySem.W.findIn K (.ref C_Broken) "word" = some none)
    (xkn : PySem.W.specialIn K (.builtin "object.__class__") "__get__" = some (some (.builtin "getset_descriptor.__get__"))) (xkt : PySem.W.takesIn K (.builtin "object.__class__") = some true)
    (xga_NoRow : PySem.W.findIn K (.ref C_NoRow) "__getattribute__" = some (some (.builtin "BaseException.__getattribute__"))) (xgx_NoRow : PySem.W.findIn K (.ref C_NoRow) "__getattr__" = some none) (xhd_NoRow : PySem.W.hasDictIn K C_NoRow = true) (kx_NoRow : PySem.W.keepIn K (.ref C_NoRow) = true)
    (xka_NoRow : PySem.W.findIn K (.ref C_NoRow) "__class__" = some (some (.builtin "object.__class__"))) (xkm_NoRow : PySem.W.mroIn K C_NoRow (.type "object") = some true) (kv_NoRow : PySem.W.mroIn K C_NoRow (.type "ValueError") = some true)
    (ki_NoRow_DialectError : PySem.W.mroIn K C_NoRow (.ref C_DialectError) = some true)
    (ki_NoRow_NoText : PySem.W.mroIn K C_NoRow (.ref C_NoText) = some false)
    (ki_NoRow_NoTable : PySem.W.mroIn K C_NoRow (.ref C_NoTable) = some false)
    (ki_NoRow_NoDialect : PySem.W.mroIn K C_NoRow (.ref C_NoDialect) = some false)
    (ki_NoRow_NoRow : PySem.W.mroIn K C_NoRow (.ref C_NoRow) = some true)
    (ki_NoRow_NoName : PySem.W.mroIn K C_NoRow (.ref C_NoName) = some false)
    (ki_NoRow_TooMany : PySem.W.mroIn K C_NoRow (.ref C_TooMany) = some false)
    (ki_NoRow_Broken : PySem.W.mroIn K C_NoRow (.ref C_Broken) = some false)
    (ia_Dialect : PySem.W.findIn K (.ref C_Dialect) "__class__" = some (some (.builtin "object.__class__"))) (ib_Dialect : PySem.W.specialIn K (.builtin "object.__class__") "__get__" = some (some (.builtin "getset_descriptor.__get__"))) (id_Dialect : PySem.W.takesIn K (.builtin "object.__class__") = some true) (ie_Dialect : PySem.W.mroIn K C_Dialect (.type "object") = some true)
    (z_ValueError : PySem.W.nsIn K mainGlobals "ValueError" = some none)
    (z_all : PySem.W.nsIn K mainGlobals "all" = some none)
    (z_bool : PySem.W.nsIn K mainGlobals "bool" = some none)
    (z_int : PySem.W.nsIn K mainGlobals "int" = some none)
    (z_isinstance : PySem.W.nsIn K mainGlobals "isinstance" = some none)
    (z_len : PySem.W.nsIn K mainGlobals "len" = some none)
    (z_ord : PySem.W.nsIn K mainGlobals "ord" = some none)
    (z_range : PySem.W.nsIn K mainGlobals "range" = some none)
    (z_str : PySem.W.nsIn K mainGlobals "str" = some none)
    (z_tuple : PySem.W.nsIn K mainGlobals "tuple" = some none)
    {tk_SMALL_LETTERS : Tok} (v_SMALL_LETTERS : PySem.W.nsIn K mainGlobals "SMALL_LETTERS" = some (some (.str z_SMALL_LETTERS tk_SMALL_LETTERS))) (w_SMALL_LETTERS : z_SMALL_LETTERS = Str.ofString "abcdefghijklmnopqrstuvwxyz")
    {tk_PRINTABLE : Tok} (v_PRINTABLE : PySem.W.nsIn K mainGlobals "PRINTABLE" = some (some (.str z_PRINTABLE tk_PRINTABLE))) (w_PRINTABLE : z_PRINTABLE = Str.ofString " !\"#$&'()*+,-./0123456789:;<=>?@ABCDEFGHIJKLMNOPQRSTUVWXYZ[\\]^_`abcdefghijklmnopqrstuvwxyz{|}~")
    {tk_MOST_LETTERS : Tok} (v_MOST_LETTERS : PySem.W.nsIn K mainGlobals "MOST_LETTERS" = some (some (.int 8 tk_MOST_LETTERS))) :
    ∃ fd : FuncData, (∀ (s : Shared) (v : Value), BindsTo s fd ⟨[v], []⟩ [("_law_script", v)]) ∧ ∀ base : Heap, K.In base → base.Ns mainGlobals mg → FnOk l.prog w K mg base CX0 9 fa fd ["_law_script"] (sp_law K) := by
  have e := hfa.symm.trans (PySem.W.mg_of X G a25)
  cases e
  have F0 := fun_mk (st := s_NoName___init__) l0 c0 k0
  have b0 := F0.binds (ps := ["self", "name"]) fun _ _ _ _ _ _ us hl => match us, hl with | [_, _], _ => rfl
  have F1 := fun_mk (st := s_TooMany___init__) l1 c1 k1
  have b1 := F1.binds (ps := ["self", "most"]) fun _ _ _ _ _ _ us hl => match us, hl with | [_, _], _ => rfl
  have F2 := fun_mk (st := s_Broken___init__) l2 c2 k2
  have b2 := F2.binds (ps := ["self", "row", "place", "word"]) fun _ _ _ _ _ _ us hl => match us, hl with | [_, _, _, _], _ => rfl
  have F3 := fun_mk (st := s_is_printable) l3 c3 k3
  have b3 := F3.binds (ps := ["sign"]) fun _ _ _ _ _ _ us hl => match us, hl with | [_], _ => rfl
  have F4 := fun_mk (st := s_are_unlike_signs) l4 c4 k4
  have b4 := F4.binds (ps := ["thing", "least", "most"]) fun _ _ _ _ _ _ us hl => match us, hl with | [_, _, _], _ => rfl
  have F5 := funD_mk (st := s_Dialect___init__) l5 c5 k5
  have b5 : Binds K (PySem.W.fnOf "__init__" "Dialect.__init__" (defArgs s_Dialect___init__) (defBody s_Dialect___init__) (defScope s_Dialect___init__) (.ref dt_Dialect___init__) kV5 dc5 pm5 an5 cd5 ct5) ["self", "parts", "quotes", "frees", "twin", "wide", "thin", "stray"] [] := fun s us hK hl => match us, hl with | [_, _, _, _, _, _, _, _], _ => BindsTo.of_defaults (T := dt_Dialect___init__) rfl (hK _ _ d5) rfl rfl rfl
  have F6 := fun_mk (st := s_Dialect_told) l6 c6 k6
  have b6 := F6.binds (ps := ["self"]) fun _ _ _ _ _ _ us hl => match us, hl with | [_], _ => rfl
  have F7 := fun_mk (st := s_dialect_of) l7 c7 k7
  have b7 := F7.binds (ps := ["told"]) fun _ _ _ _ _ _ us hl => match us, hl with | [_], _ => rfl
  have F8 := fun_mk (st := s_makes_dialect) l8 c8 k8
  have b8 := F8.binds (ps := ["told"]) fun _ _ _ _ _ _ us hl => match us, hl with | [_], _ => rfl
  have F9 := fun_mk (st := s_is_name) l9 c9 k9
  have b9 := F9.binds (ps := ["thing"]) fun _ _ _ _ _ _ us hl => match us, hl with | [_], _ => rfl
  have F10 := fun_mk (st := s_signs_of_word) l10 c10 k10
  have b10 := F10.binds (ps := ["word"]) fun _ _ _ _ _ _ us hl => match us, hl with | [_], _ => rfl
  have F11 := fun_mk (st := s_truths_of_word) l11 c11 k11
  have b11 := F11.binds (ps := ["word"]) fun _ _ _ _ _ _ us hl => match us, hl with | [_], _ => rfl
  have F12 := fun_mk (st := s_dialect_in) l12 c12 k12
  have b12 := F12.binds (ps := ["row"]) fun _ _ _ _ _ _ us hl => match us, hl with | [_], _ => rfl
  have F13 := fun_mk (st := s__law_cell_at) l13 c13 k13
  have b13 := F13.binds (ps := ["_law_script", "_law_k"]) fun _ _ _ _ _ _ us hl => match us, hl with | [_, _], _ => rfl
  have F14 := fun_mk (st := s__law_mixed) l14 c14 k14
  have b14 := F14.binds (ps := ["_law_number_here", "_law_salt"]) fun _ _ _ _ _ _ us hl => match us, hl with | [_, _], _ => rfl
  have F15 := fun_mk (st := s__law_number) l15 c15 k15
  have b15 := F15.binds (ps := ["_law_cell", "_law_salt"]) fun _ _ _ _ _ _ us hl => match us, hl with | [_, _], _ => rfl
  have F16 := fun_mk (st := s__law_some) l16 c16 k16
  have b16 := F16.binds (ps := ["_law_number_here", "_law_many", "_law_menu"]) fun _ _ _ _ _ _ us hl => match us, hl with | [_, _, _], _ => rfl
  have F17 := fun_mk (st := s__law_menus) l17 c17 k17
  have b17 := F17.binds (ps := ["_law_way"]) fun _ _ _ _ _ _ us hl => match us, hl with | [_], _ => rfl
  have F18 := fun_mk (st := s__law_told) l18 c18 k18
  have b18 := F18.binds (ps := ["_law_cell"]) fun _ _ _ _ _ _ us hl => match us, hl with | [_], _ => rfl
  have F19 := fun_mk (st := s__law_title) l19 c19 k19
  have b19 := F19.binds (ps := ["_law_cell"]) fun _ _ _ _ _ _ us hl => match us, hl with | [_], _ => rfl
  have F20 := fun_mk (st := s__law_row) l20 c20 k20
  have b20 := F20.binds (ps := ["_law_name", "_law_told_here"]) fun _ _ _ _ _ _ us hl => match us, hl with | [_, _], _ => rfl
  have F21 := fun_mk (st := s__law_spoilt) l21 c21 k21
  have b21 := F21.binds (ps := ["_law_words", "_law_cell"]) fun _ _ _ _ _ _ us hl => match us, hl with | [_, _], _ => rfl
  have F22 := fun_mk (st := s__law_signs) l22 c22 k22
  have b22 := F22.binds (ps := ["_law_word", "_law_least", "_law_most"]) fun _ _ _ _ _ _ us hl => match us, hl with | [_, _, _], _ => rfl
  have F23 := fun_mk (st := s__law_read) l23 c23 k23
  have b23 := F23.binds (ps := ["_law_row_here"]) fun _ _ _ _ _ _ us hl => match us, hl with | [_], _ => rfl
  have F24 := fun_mk (st := s__law_asked) l24 c24 k24
  have b24 := F24.binds (ps := ["_law_row_here"]) fun _ _ _ _ _ _ us hl => match us, hl with | [_], _ => rfl
  have F25 := fun_mk (st := s_law) l25 c25 k25
  have b25 := F25.binds (ps := ["_law_script"]) fun _ _ _ _ _ _ us hl => match us, hl with | [_], _ => rfl
  exact ⟨PySem.W.fnOf "law" "law" (defArgs s_law) (defBody s_law) (defScope s_law) .none kV25 dc25 pm25 an25 cd25 ct25, fun s v => .of_eq rfl, fun base _ _ => ok_law ⟨F0, b0,
    F1, b1,
    F2, b2,
    F3, b3, PySem.W.mg_of X G a3,
    F4, b4, PySem.W.mg_of X G a4,
    F5, b5,
    F6, b6, ⟨a6, i6, k6⟩,
    F7, b7, PySem.W.mg_of X G a7,
    F8, b8, PySem.W.mg_of X G a8,
    F9, b9, PySem.W.mg_of X G a9,
    F10, b10, PySem.W.mg_of X G a10,
    F11, b11, PySem.W.mg_of X G a11,
    F12, b12, PySem.W.mg_of X G a12,
    F13, b13, PySem.W.mg_of X G a13,
    F14, b14, PySem.W.mg_of X G a14,
    F15, b15, PySem.W.mg_of X G a15,
    F16, b16, PySem.W.mg_of X G a16,
    F17, b17, PySem.W.mg_of X G a17,
    F18, b18, PySem.W.mg_of X G a18,
    F19, b19, PySem.W.mg_of X G a19,
    F20, b20, PySem.W.mg_of X G a20,
    F21, b21, PySem.W.mg_of X G a21,
    F22, b22, PySem.W.mg_of X G a22,
    F23, b23, PySem.W.mg_of X G a23,
    F24, b24, PySem.W.mg_of X G a24,
    F25, b25, PySem.W.mg_of X G a25,
    ⟨pg_Dialect, hd_Dialect, po_Dialect, sa_Dialect⟩, PySem.W.mg_of X G aC_Dialect, ⟨mk_Dialect, a5, i5, kc_Dialect⟩,
    n_Dialect_parts,
    n_Dialect_quotes,
    n_Dialect_frees,
    n_Dialect_twin,
    n_Dialect_wide,
    n_Dialect_thin,
    n_Dialect_stray,
    PySem.W.mg_of X G aX_DialectError, ⟨⟨_, _, _, _, _, _, _, _, _, _, _, _, _, _, ox_DialectError⟩, ⟨_, _, _, _, _, nx_DialectError, w_ax_DialectError⟩, ix_DialectError⟩,
    ⟨xs_DialectError, xr_DialectError, xc_DialectError⟩,
    PySem.W.mg_of X G aX_NoText, ⟨⟨_, _, _, _, _, _, _, _, _, _, _, _, _, _, ox_NoText⟩, ⟨_, _, _, _, _, nx_NoText, w_ax_NoText⟩, ix_NoText⟩,
    PySem.W.mg_of X G aX_NoTable, ⟨⟨_, _, _, _, _, _, _, _, _, _, _, _, _, _, ox_NoTable⟩, ⟨_, _, _, _, _, nx_NoTable, w_ax_NoTable⟩, ix_NoTable⟩,
    PySem.W.mg_of X G aX_NoDialect, ⟨⟨_, _, _, _, _, _, _, _, _, _, _, _, _, _, ox_NoDialect⟩, ⟨_, _, _, _, _, nx_NoDialect, w_ax_NoDialect⟩, ix_NoDialect⟩,
    PySem.W.mg_of X G aX_NoRow, ⟨⟨_, _, _, _, _, _, _, _, _, _, _, _, _, _, ox_NoRow⟩, ⟨_, _, _, _, _, nx_NoRow, w_ax_NoRow⟩, ix_NoRow⟩,
    PySem.W.mg_of X G aX_NoName, ⟨⟨_, _, _, _, _, _, _, _, _, _, _, _, _, _, ox_NoName⟩, ⟨_, _, _, _, _, nx_NoName, w_ax_NoName⟩, ix_NoName⟩,
    kx_NoName, ⟨_, lx_NoName, rfl⟩,
    ⟨xn_NoName_name, xsa_NoName, xga_NoName, xgx_NoName, xhd_NoName⟩,
    PySem.W.mg_of X G aX_TooMany, ⟨⟨_, _, _, _, _, _, _, _, _, _, _, _, _, _, ox_TooMany⟩, ⟨_, _, _, _, _, nx_TooMany, w_ax_TooMany⟩, ix_TooMany⟩,
    kx_TooMany, ⟨_, lx_TooMany, rfl⟩,
    ⟨xn_TooMany_most, xsa_TooMany, xga_TooMany, xgx_TooMany, xhd_TooMany⟩,
    PySem.W.mg_of X G aX_Broken, ⟨⟨_, _, _, _, _, _, _, _, _, _, _, _, _, _, ox_Broken⟩, ⟨_, _, _, _, _, nx_Broken, w_ax_Broken⟩, ix_Broken⟩,
    kx_Broken, ⟨_, lx_Broken, rfl⟩,
    ⟨xn_Broken_row, xsa_Broken, xga_Broken, xgx_Broken, xhd_Broken⟩,
    ⟨xn_Broken_place, xsa_Broken, xga_Broken, xgx_Broken, xhd_Broken⟩,
    ⟨xn_Broken_word, xsa_Broken, xga_Broken, xgx_Broken, xhd_Broken⟩,
    ⟨xga_NoRow, xgx_NoRow, xhd_NoRow, xka_NoRow, xkn, xkt, xkm_NoRow⟩,
    kx_NoRow,
    kit_t kv_NoRow,
    kit_x (XCl.mk ⟨_, _, _, _, _, _, _, _, _, _, _, _, _, _, ox_NoRow⟩ ⟨_, _, _, _, _, nx_NoRow, w_ax_NoRow⟩ ix_NoRow) (XCl.mk ⟨_, _, _, _, _, _, _, _, _, _, _, _, _, _, ox_DialectError⟩ ⟨_, _, _, _, _, nx_DialectError, w_ax_DialectError⟩ ix_DialectError) ki_NoRow_DialectError,
    kit_x (XCl.mk ⟨_, _, _, _, _, _, _, _, _, _, _, _, _, _, ox_NoRow⟩ ⟨_, _, _, _, _, nx_NoRow, w_ax_NoRow⟩ ix_NoRow) (XCl.mk ⟨_, _, _, _, _, _, _, _, _, _, _, _, _, _, ox_NoText⟩ ⟨_, _, _, _, _, nx_NoText, w_ax_NoText⟩ ix_NoText) ki_NoRow_NoText,
    kit_x (XCl.mk ⟨_, _, _, _, _, _, _, _, _, _, _, _, _, _, ox_NoRow⟩ ⟨_, _, _, _, _, nx_NoRow, w_ax_NoRow⟩ ix_NoRow) (XCl.mk ⟨_, _, _, _, _, _, _, _, _, _, _, _, _, _, ox_NoTable⟩ ⟨_, _, _, _, _, nx_NoTable, w_ax_NoTable⟩ ix_NoTable) ki_NoRow_NoTable,
    kit_x (XCl.mk ⟨_, _, _, _, _, _, _, _, _, _, _, _, _, _, ox_NoRow⟩ ⟨_, _, _, _, _, nx_NoRow, w_ax_NoRow⟩ ix_NoRow) (XCl.mk ⟨_, _, _, _, _, _, _, _, _, _, _, _, _, _, ox_NoDialect⟩ ⟨_, _, _, _, _, nx_NoDialect, w_ax_NoDialect⟩ ix_NoDialect) ki_NoRow_NoDialect,
    kit_x (XCl.mk ⟨_, _, _, _, _, _, _, _, _, _, _, _, _, _, ox_NoRow⟩ ⟨_, _, _, _, _, nx_NoRow, w_ax_NoRow⟩ ix_NoRow) (XCl.mk ⟨_, _, _, _, _, _, _, _, _, _, _, _, _, _, ox_NoRow⟩ ⟨_, _, _, _, _, nx_NoRow, w_ax_NoRow⟩ ix_NoRow) ki_NoRow_NoRow,
    kit_x (XCl.mk ⟨_, _, _, _, _, _, _, _, _, _, _, _, _, _, ox_NoRow⟩ ⟨_, _, _, _, _, nx_NoRow, w_ax_NoRow⟩ ix_NoRow) (XCl.mk ⟨_, _, _, _, _, _, _, _, _, _, _, _, _, _, ox_NoName⟩ ⟨_, _, _, _, _, nx_NoName, w_ax_NoName⟩ ix_NoName) ki_NoRow_NoName,
    kit_x (XCl.mk ⟨_, _, _, _, _, _, _, _, _, _, _, _, _, _, ox_NoRow⟩ ⟨_, _, _, _, _, nx_NoRow, w_ax_NoRow⟩ ix_NoRow) (XCl.mk ⟨_, _, _, _, _, _, _, _, _, _, _, _, _, _, ox_TooMany⟩ ⟨_, _, _, _, _, nx_TooMany, w_ax_TooMany⟩ ix_TooMany) ki_NoRow_TooMany,
    kit_x (XCl.mk ⟨_, _, _, _, _, _, _, _, _, _, _, _, _, _, ox_NoRow⟩ ⟨_, _, _, _, _, nx_NoRow, w_ax_NoRow⟩ ix_NoRow) (XCl.mk ⟨_, _, _, _, _, _, _, _, _, _, _, _, _, _, ox_Broken⟩ ⟨_, _, _, _, _, nx_Broken, w_ax_Broken⟩ ix_Broken) ki_NoRow_Broken,
    ⟨ia_Dialect, ib_Dialect, id_Dialect, ie_Dialect, kit_self⟩,
    PySem.W.mg_none_of X G z_ValueError,
    PySem.W.mg_none_of X G z_all,
    PySem.W.mg_none_of X G z_bool,
    PySem.W.mg_none_of X G z_int,
    PySem.W.mg_none_of X G z_isinstance,
    PySem.W.mg_none_of X G z_len,
    PySem.W.mg_none_of X G z_ord,
    PySem.W.mg_none_of X G z_range,
    PySem.W.mg_none_of X G z_str,
    PySem.W.mg_none_of X G z_tuple,
    ⟨_, PySem.W.mg_of X G v_SMALL_LETTERS⟩, w_SMALL_LETTERS,
    ⟨_, PySem.W.mg_of X G v_PRINTABLE⟩, w_PRINTABLE,
    ⟨_, PySem.W.mg_of X G v_MOST_LETTERS⟩⟩⟩
theorem walk {l : PySem.W.OpenLaw} {q : Program} {loose : List Str} {XP : (Str → Option Value) → Heap → Prop} {YP : World → Heap → Prop} {d : DefRec} {K : Params → PySem.W.Frag} (hn : l.most = some 63) (hdf : d.params.defaults = [])
    (hY : ∀ (w : World) (h : Heap), YP w h → (K w.params).In h)
    (F : ∀ (w : World) (mg : Str → Option Value) (fa : Addr) (h : Heap), (K w.params).In h → h.Ns mainGlobals mg → mg d.name = some (.ref fa) →
      ∃ fd : FuncData, (∀ (s : Shared) (u : Value), BindsTo s fd ⟨[u], []⟩ [("_law_script", u)]) ∧ ∀ base : Heap, (K w.params).In base → base.Ns mainGlobals mg → FnOk l.prog w (K w.params) mg base CX0 9 fa fd ["_law_script"] (sp_law (K w.params))) :
    PySem.W.WalkO q loose XP YP l.row.toRowW d [] (fun f vs => PySem.call f vs) :=
  L2.walk_of (n := 63) (k := 9) (x := "_law_script") (CX := fun _ => CX0) (sp := fun w => sp_law (K w.params)) hn (by decide) hdf ⟨rfl, by decide, by decide⟩ hY F (fun _ _ a ns hl _ hS => ⟨a, ns, rfl, hS, hl, fun _ => rfl⟩) fun _ _ _ _ _ z => z
end My
def PySem.W.Fast.tw549580091950932536 : Unit := ()
def PySem.W.Fast.tw10068324643503634444 : Unit := ()
def PySem.W.Fast.tw13102670324423431996 : Unit := ()
def PySem.W.Fast.tw2616819754554889991 : Unit := ()
def PySem.W.Fast.tw6937742359699781575 : Unit := ()
def PySem.W.Fast.tw16746656146365522481 : Unit := ()
def PySem.W.Fast.tw2037795745082231247 : Unit := ()
def PySem.W.Fast.tw7269452143377224076 : Unit := ()
def PySem.W.Fast.tw7981343927789669467 : Unit := ()
def PySem.W.Fast.tw9848544737038745803 : Unit := ()
def PySem.W.Fast.tw12981045124403579856 : Unit := ()
def PySem.W.Fast.tw8824085855704302213 : Unit := ()
def PySem.W.Fast.tw809774313581253277 : Unit := ()
def PySem.W.Fast.tw2217560702657487607 : Unit := ()
def PySem.W.Fast.tw11446226653756326337 : Unit := ()
def PySem.W.Fast.tw17787443310841355307 : Unit := ()
def PySem.W.Fast.tw2880743094230304724 : Unit := ()
def PySem.W.Fast.tw9777570430058510401 : Unit := ()
def PySem.W.Fast.tw7563399612733736206 : Unit := ()
def PySem.W.Fast.tw5727677766705588356 : Unit := ()
def PySem.W.Fast.tw9306119478784224709 : Unit := ()
def PySem.W.Fast.tw1838364606411948525 : Unit := ()
def PySem.W.Fast.tw4341844869612667291 : Unit := ()
def PySem.W.Fast.tw3435547536326601504 : Unit := ()
def PySem.W.Fast.tw17694942024440129900 : Unit := ()
def PySem.W.Fast.tw2519920779064139292 : Unit := ()
def PySem.W.Fast.tw15010777997337755187 : Unit := ()
def PySem.W.Fast.tw15544828338641886052 : Unit := ()
def PySem.W.Fast.tw8176560523895206986 : Unit := ()
def PySem.W.Fast.tw18277345662674941013 : Unit := ()
def PySem.W.Fast.tw5049849058919456586 : Unit := ()
def PySem.W.Fast.tw10620633837838051864 : Unit := ()
open PySem PySem.W PyProof.Rows
set_option maxRecDepth 100000 in
set_option maxHeartbeats 0 in
theorem PySem.Challenge.cw_dialecthall_k92_rows_refused_holds : PySem.Challenge.rw_dialecthall_k92_rows_refused.Holds := by
  w_on; o_law; k_head; (case hw => w_witness2)
  k_fill
  refine My.walk (l := PySem.Challenge.rw_dialecthall_k92_rows_refused) rfl rfl (fun w h Y => PySem.W.kIn_of Y) ?F
  case F =>
    intro w mg fa h KX G hmg
    refine' My.all_mk KX G hmg ?aC_Dialect ?aX_DialectError ?aX_NoText ?aX_NoTable ?aX_NoDialect ?aX_NoRow ?aX_NoName ?aX_TooMany ?aX_Broken ?l0 ?c0 ?k0 ?l1 ?c1 ?k1 ?l2 ?c2 ?k2 ?a3 ?l3 ?c3 ?k3 ?a4 ?l4 ?c4 ?k4 ?a5 ?i5 ?l5 ?c5 ?k5 ?d5 ?a6 ?i6 ?l6 ?c6 ?k6 ?a7 ?l7 ?c7 ?k7 ?a8 ?l8 ?c8 ?k8 ?a9 ?l9 ?c9 ?k9 ?a10 ?l10 ?c10 ?k10 ?a11 ?l11 ?c11 ?k11 ?a12 ?l12 ?c12 ?k12 ?a13 ?l13 ?c13 ?k13 ?a14 ?l14 ?c14 ?k14 ?a15 ?l15 ?c15 ?k15 ?a16 ?l16 ?c16 ?k16 ?a17 ?l17 ?c17 ?k17 ?a18 ?l18 ?c18 ?k18 ?a19 ?l19 ?c19 ?k19 ?a20 ?l20 ?c20 ?k20 ?a21 ?l21 ?c21 ?k21 ?a22 ?l22 ?c22 ?k22 ?a23 ?l23 ?c23 ?k23 ?a24 ?l24 ?c24 ?k24 ?a25 ?l25 ?c25 ?k25 ?pg_Dialect ?hd_Dialect ?po_Dialect ?sa_Dialect ?mk_Dialect ?kc_Dialect ?n_Dialect_parts ?n_Dialect_quotes ?n_Dialect_frees ?n_Dialect_twin ?n_Dialect_wide ?n_Dialect_thin ?n_Dialect_stray ?ox_DialectError ?nx_DialectError ?w_ax_DialectError ?ix_DialectError ?xs_DialectError ?xr_DialectError ?xc_DialectError ?ox_NoText ?nx_NoText ?w_ax_NoText ?ix_NoText ?ox_NoTable ?nx_NoTable ?w_ax_NoTable ?ix_NoTable ?ox_NoDialect ?nx_NoDialect ?w_ax_NoDialect ?ix_NoDialect ?ox_NoRow ?nx_NoRow ?w_ax_NoRow ?ix_NoRow ?ox_NoName ?nx_NoName ?w_ax_NoName ?ix_NoName ?kx_NoName ?lx_NoName ?xsa_NoName ?xga_NoName ?xgx_NoName ?xhd_NoName ?xn_NoName_name ?ox_TooMany ?nx_TooMany ?w_ax_TooMany ?ix_TooMany ?kx_TooMany ?lx_TooMany ?xsa_TooMany ?xga_TooMany ?xgx_TooMany ?xhd_TooMany ?xn_TooMany_most ?ox_Broken ?nx_Broken ?w_ax_Broken ?ix_Broken ?kx_Broken ?lx_Broken ?xsa_Broken ?xga_Broken ?xgx_Broken ?xhd_Broken ?xn_Broken_row ?xn_Broken_place ?xn_Broken_word ?xkn ?xkt ?xga_NoRow ?xgx_NoRow ?xhd_NoRow ?kx_NoRow ?xka_NoRow ?xkm_NoRow ?kv_NoRow ?ki_NoRow_DialectError ?ki_NoRow_NoText ?ki_NoRow_NoTable ?ki_NoRow_NoDialect ?ki_NoRow_NoRow ?ki_NoRow_NoName ?ki_NoRow_TooMany ?ki_NoRow_Broken ?ia_Dialect ?ib_Dialect ?id_Dialect ?ie_Dialect ?z_ValueError ?z_all ?z_bool ?z_int ?z_isinstance ?z_len ?z_ord ?z_range ?z_str ?z_tuple ?v_SMALL_LETTERS ?w_SMALL_LETTERS ?v_PRINTABLE ?w_PRINTABLE ?v_MOST_LETTERS
    (case aX_DialectError => k_is)
    (case aX_NoText => k_is)
    (case aX_NoTable => k_is)
    (case aX_NoDialect => k_is)
    (case aX_NoRow => k_is)
    (case aX_NoName => k_is)
    (case aX_TooMany => k_is)
    (case aX_Broken => k_is)
    (case ox_DialectError => k_is)
    (case nx_DialectError => k_is)
    (case ix_DialectError => k_is)
    (case ox_NoText => k_is)
    (case nx_NoText => k_is)
    (case ix_NoText => k_is)
    (case ox_NoTable => k_is)
    (case nx_NoTable => k_is)
    (case ix_NoTable => k_is)
    (case ox_NoDialect => k_is)
    (case nx_NoDialect => k_is)
    (case ix_NoDialect => k_is)
    (case ox_NoRow => k_is)
    (case nx_NoRow => k_is)
    (case ix_NoRow => k_is)
    (case ox_NoName => k_is)
    (case nx_NoName => k_is)
    (case ix_NoName => k_is)
    (case ox_TooMany => k_is)
    (case nx_TooMany => k_is)
    (case ix_TooMany => k_is)
    (case ox_Broken => k_is)
    (case nx_Broken => k_is)
    (case ix_Broken => k_is)
    (case aC_Dialect => k_is)
    (case l0 => k_is)
    (case c0 => k_is)
    (case k0 => k_is)
    (case l1 => k_is)
    (case c1 => k_is)
    (case k1 => k_is)
    (case l2 => k_is)
    (case c2 => k_is)
    (case k2 => k_is)
    (case a3 => k_is)
    (case l3 => k_is)
    (case c3 => k_is)
    (case k3 => k_is)
    (case a4 => k_is)
    (case l4 => k_is)
    (case c4 => k_is)
    (case k4 => k_is)
    (case a5 => k_is)
    (case i5 => k_is)
    (case l5 => k_is)
    (case c5 => k_is)
    (case k5 => k_is)
    (case d5 => k_is)
    (case a6 => k_is)
    (case i6 => k_is)
    (case l6 => k_is)
    (case c6 => k_is)
    (case k6 => k_is)
    (case a7 => k_is)
    (case l7 => k_is)
    (case c7 => k_is)
    (case k7 => k_is)
    (case a8 => k_is)
    (case l8 => k_is)
    (case c8 => k_is)
    (case k8 => k_is)
    (case a9 => k_is)
    (case l9 => k_is)
    (case c9 => k_is)
    (case k9 => k_is)
    (case a10 => k_is)
    (case l10 => k_is)
    (case c10 => k_is)
    (case k10 => k_is)
    (case a11 => k_is)
    (case l11 => k_is)
    (case c11 => k_is)
    (case k11 => k_is)
    (case a12 => k_is)
    (case l12 => k_is)
    (case c12 => k_is)
    (case k12 => k_is)
    (case a13 => k_is)
    (case l13 => k_is)
    (case c13 => k_is)
    (case k13 => k_is)
    (case a14 => k_is)
    (case l14 => k_is)
    (case c14 => k_is)
    (case k14 => k_is)
    (case a15 => k_is)
    (case l15 => k_is)
    (case c15 => k_is)
    (case k15 => k_is)
    (case a16 => k_is)
    (case l16 => k_is)
    (case c16 => k_is)
    (case k16 => k_is)
    (case a17 => k_is)
    (case l17 => k_is)
    (case c17 => k_is)
    (case k17 => k_is)
    (case a18 => k_is)
    (case l18 => k_is)
    (case c18 => k_is)
    (case k18 => k_is)
    (case a19 => k_is)
    (case l19 => k_is)
    (case c19 => k_is)
    (case k19 => k_is)
    (case a20 => k_is)
    (case l20 => k_is)
    (case c20 => k_is)
    (case k20 => k_is)
    (case a21 => k_is)
    (case l21 => k_is)
    (case c21 => k_is)
    (case k21 => k_is)
    (case a22 => k_is)
    (case l22 => k_is)
    (case c22 => k_is)
    (case k22 => k_is)
    (case a23 => k_is)
    (case l23 => k_is)
    (case c23 => k_is)
    (case k23 => k_is)
    (case a24 => k_is)
    (case l24 => k_is)
    (case c24 => k_is)
    (case k24 => k_is)
    (case a25 => k_is)
    (case l25 => k_is)
    (case c25 => k_is)
    (case k25 => k_is)
    (case pg_Dialect => k_is)
    (case hd_Dialect => k_is)
    (case po_Dialect => k_is)
    (case sa_Dialect => k_is)
    (case mk_Dialect => k_is)
    (case kc_Dialect => k_is)
    (case n_Dialect_parts => k_is)
    (case n_Dialect_quotes => k_is)
    (case n_Dialect_frees => k_is)
    (case n_Dialect_twin => k_is)
    (case n_Dialect_wide => k_is)
    (case n_Dialect_thin => k_is)
    (case n_Dialect_stray => k_is)
    (case w_ax_DialectError => rfl)
    (case xs_DialectError => k_is)
    (case xr_DialectError => k_is)
    (case xc_DialectError => k_is)
    (case w_ax_NoText => rfl)
    (case w_ax_NoTable => rfl)
    (case w_ax_NoDialect => rfl)
    (case w_ax_NoRow => rfl)
    (case w_ax_NoName => rfl)
    (case kx_NoName => k_is)
    (case lx_NoName => k_is)
    (case xsa_NoName => k_is)
    (case xga_NoName => k_is)
    (case xgx_NoName => k_is)
    (case xhd_NoName => k_is)
    (case xn_NoName_name => k_is)
    (case w_ax_TooMany => rfl)
    (case kx_TooMany => k_is)
    (case lx_TooMany => k_is)
    (case xsa_TooMany => k_is)
    (case xga_TooMany => k_is)
    (case xgx_TooMany => k_is)
    (case xhd_TooMany => k_is)
    (case xn_TooMany_most => k_is)
    (case w_ax_Broken => rfl)
    (case kx_Broken => k_is)
    (case lx_Broken => k_is)
    (case xsa_Broken => k_is)
    (case xga_Broken => k_is)
    (case xgx_Broken => k_is)
    (case xhd_Broken => k_is)
    (case xn_Broken_row => k_is)
    (case xn_Broken_place => k_is)
    (case xn_Broken_word => k_is)
    (case xkn => k_is)
    (case xkt => k_is)
    (case xga_NoRow => k_is)
    (case xgx_NoRow => k_is)
    (case xhd_NoRow => k_is)
    (case kx_NoRow => k_is)
    (case xka_NoRow => k_is)
    (case xkm_NoRow => k_is)
    (case kv_NoRow => k_is)
    (case ki_NoRow_DialectError => k_is)
    (case ki_NoRow_NoText => k_is)
    (case ki_NoRow_NoTable => k_is)
    (case ki_NoRow_NoDialect => k_is)
    (case ki_NoRow_NoRow => k_is)
    (case ki_NoRow_NoName => k_is)
    (case ki_NoRow_TooMany => k_is)
    (case ki_NoRow_Broken => k_is)
    (case ia_Dialect => k_is)
    (case ib_Dialect => k_is)
    (case id_Dialect => k_is)
    (case ie_Dialect => k_is)
    (case z_ValueError => k_is)
    (case z_all => k_is)
    (case z_bool => k_is)
    (case z_int => k_is)
    (case z_isinstance => k_is)
    (case z_len => k_is)
    (case z_ord => k_is)
    (case z_range => k_is)
    (case z_str => k_is)
    (case z_tuple => k_is)
    (case v_SMALL_LETTERS => k_is)
    (case w_SMALL_LETTERS => rfl)
    (case v_PRINTABLE => k_is)
    (case w_PRINTABLE => rfl)
    (case v_MOST_LETTERS => k_is)

