import PyProof.Rows.All
import Wide.All
import OpenK.AllK
import Wide.FinOn
import Lean
import PyProof.EqAt
import PyProof.EqKinds
import PyProof.TupleCall
import PyProof.JoinWalk
import PyProof.DictIter
import PyProof.SeqI3
import PyProof.WalkInts
import PySem.Challenge.RW_dialecthall_k45_whole_cells_apart
set_option Elab.async false
set_option linter.all false
set_option maxRecDepth 100000
namespace L2
open PySem PySem.Spec PyProof.Rows
abbrev Key := Sum Int Str
def keyIs : Key → Value → Bool
 | .inl k, v => Value.isInt k v
 | .inr x, v => Value.isStrOf x v
def keyH (w : World) : Key → Int
 | .inl k => hashInt k
 | .inr x => hashStr w x
theorem keyIs_shape : ∀ {k : Key} {v : Value}, keyIs k v = true → (∃ i t, k = Sum.inl i ∧ v = Value.int i t) ∨ (∃ x t, k = Sum.inr x ∧ v = Value.str x t)
 | .inl i, v, h => by
   obtain ⟨t, e⟩ := Value.isInt_shape (k := i) (v := v) h
   exact .inl ⟨i, t, rfl, e⟩
 | .inr x, v, h => by
   obtain ⟨t, e⟩ := Value.isStrOf_shape (x := x) (v := v) h
   exact .inr ⟨x, t, rfl, e⟩
theorem keyIs_int (i : Int) (t : Tok) : keyIs (.inl i) (.int i t) = true := by simp [keyIs, Value.isInt]
theorem keyIs_str (x : Str) (t : Tok) : keyIs (.inr x) (.str x t) = true := by simp [keyIs, Value.isStrOf]
theorem key_ll (a b : Int) : decide ((Sum.inl a : Key) = Sum.inl b) = (a == b) := by
 by_cases e : a = b
 · subst e; simp
 · have h : ¬ (Sum.inl a : Key) = Sum.inl b := fun q => e (Sum.inl.inj q)
   rw [decide_eq_false h]
   exact (beq_eq_false_iff_ne.mpr e).symm
theorem key_rr (a b : Str) : decide ((Sum.inr a : Key) = Sum.inr b) = decide (a = b) := by
 by_cases e : a = b
 · subst e; simp
 · have h : ¬ (Sum.inr a : Key) = Sum.inr b := fun q => e (Sum.inr.inj q)
   rw [decide_eq_false h, decide_eq_false e]
theorem key_lr (a : Int) (b : Str) : decide ((Sum.inl a : Key) = Sum.inr b) = false := decide_eq_false (fun q => nomatch q)
theorem key_rl (a : Str) (b : Int) : decide ((Sum.inr a : Key) = Sum.inl b) = false := decide_eq_false (fun q => nomatch q)

def mixKind (prog : Program) (w : World) : PySem.KeyKind prog w Key where
 is := keyIs
 hash := keyH w
 inj := fun v a b ha hb => by
   rcases keyIs_shape ha with ⟨i, t, rfl, rfl⟩ | ⟨x, t, rfl, rfl⟩
   · rcases keyIs_shape hb with ⟨j, u, rfl, e⟩ | ⟨y, u, rfl, e⟩
     · injection e with e1 _; rw [e1]
     · exact nomatch e
   · rcases keyIs_shape hb with ⟨j, u, rfl, e⟩ | ⟨y, u, rfl, e⟩
     · exact nomatch e
     · injection e with e1 _; rw [e1]
 byValue := fun k v h => by
   rcases keyIs_shape h with ⟨i, t, rfl, rfl⟩ | ⟨x, t, rfl, rfl⟩ <;> rfl
 pyHash := fun hv h => by
   rcases keyIs_shape hv with ⟨i, t, rfl, rfl⟩ | ⟨x, t, rfl, rfl⟩
   · exact wpAny_pyHash_int h
   · exact wpAny_pyHash_str h
 eqBool := fun hu hv h => by
   rcases keyIs_shape hu with ⟨i, t, rfl, rfl⟩ | ⟨x, t, rfl, rfl⟩
   · rcases keyIs_shape hv with ⟨j, u, rfl, rfl⟩ | ⟨y, u, rfl, rfl⟩
     · rw [key_ll] at h; exact wpAny_eqBool_int h
     · rw [key_lr] at h; exact SeqAt.EqAt.int_str i t y u _ _ _ _ h
   · rcases keyIs_shape hv with ⟨j, u, rfl, rfl⟩ | ⟨y, u, rfl, rfl⟩
     · rw [key_rl] at h; exact SeqAt.EqAt.str_int x t j u _ _ _ _ h
     · rw [key_rr] at h; exact wpAny_eqBool_str h
 «strs» := fun k x t v h => by
   rcases keyIs_shape h with ⟨i, u, rfl, e⟩ | ⟨y, u, rfl, e⟩
   · exact nomatch e
   · injection e with e1 _
     subst e1
     cases v <;> rfl

theorem mixKind_int (prog : Program) (w : World) (i : Int) (t : Tok) : (mixKind prog w).is (.inl i) (.int i t) = true := keyIs_int i t
theorem mixKind_str (prog : Program) (w : World) (x : Str) (t : Tok) : (mixKind prog w).is (.inr x) (.str x t) = true := keyIs_str x t
end L2

namespace L2
open PySem PySem.Spec PyProof.Rows
inductive V where
 | non | bl (b : Bool) | int (i : Int) | str (x : Str) | byt (b : Array UInt8) | flt (b : UInt64) | ref (a : Addr) | ty (n : String)
 deriving DecidableEq

def RelV : V → Value → Prop
 | .non, u => u = Value.none
 | .bl b, u => u = Value.bool b
 | .int i, u => ∃ t, u = Value.int i t
 | .str x, u => ∃ t, u = Value.str x t
 | .byt b, u => ∃ t, u = Value.bytes b t
 | .flt b, u => ∃ t, u = Value.float b t
 | .ref a, u => u = Value.ref a
 | .ty n, u => u = Value.type n

abbrev Vals : List V → List Value → Prop := Paired RelV
theorem Vals.length {xs : List V} {us : List Value} (r : Vals xs us) : xs.length = us.length := Paired.length r
theorem Vals.get : ∀ {xs : List V} {us : List Value} {i : Nat} {x : V}, Vals xs us → xs[i]? = some x → ∃ u, us[i]? = some u ∧ RelV x u
 | _, _, _, _, .nil, e => by simp at e
 | _, _, 0, _, .cons r _, e => by simp at e; subst e; exact ⟨_, rfl, r⟩
 | _, _, i + 1, x, .cons _ t, e => by
   obtain ⟨u, h1, h2⟩ := Vals.get (i := i) (x := x) t (by simpa using e)
   exact ⟨u, by simpa using h1, h2⟩
theorem Vals.set {x : V} {u : Value} (r : RelV x u) : ∀ {xs : List V} {us : List Value} (i : Nat), Vals xs us → Vals (xs.set i x) (us.set i u)
 | _, _, _, .nil => .nil
 | _, _, 0, .cons _ t => .cons r t
 | _, _, i + 1, .cons q t => .cons q (Vals.set r i t)
theorem Vals.append : ∀ {xs ys : List V} {us ws : List Value}, Vals xs us → Vals ys ws → Vals (xs ++ ys) (us ++ ws)
 | _, _, _, _, .nil, s => s
 | _, _, _, _, .cons r t, s => .cons r (Vals.append t s)
theorem Vals.take : ∀ {xs : List V} {us : List Value} (n : Nat), Vals xs us → Vals (xs.take n) (us.take n)
 | _, _, 0, _ => .nil
 | _, _, _ + 1, .nil => .nil
 | _, _, n + 1, .cons r t => .cons r (Vals.take n t)
theorem Vals.drop : ∀ {xs : List V} {us : List Value} (n : Nat), Vals xs us → Vals (xs.drop n) (us.drop n)
 | _, _, 0, r => r
 | _, _, _ + 1, .nil => .nil
 | _, _, n + 1, .cons _ t => Vals.drop n t
theorem Vals.none_of : ∀ {xs : List V} {us : List Value} {i : Nat}, Vals xs us → xs[i]? = none → us[i]? = none := fun {xs us i} r e => by
 have h1 := r.length
 have h2 : xs.length ≤ i := List.getElem?_eq_none_iff.mp e
 exact List.getElem?_eq_none_iff.mpr (by omega)

def RelO : Option V → Option Value → Prop
 | some v, some u => RelV v u
 | none, none => True
 | _, _ => False
def KV {κ : Type} : List (κ × V) → List (κ × Value) → Prop := Paired fun (p : κ × V) (q : κ × Value) => p.1 = q.1 ∧ RelV p.2 q.2
def kV : Key → V
 | .inl i => .int i
 | .inr x => .str x
inductive HO where
 | lst (xs : List V)
 | tup (xs : List V)
 | dK (kvs : List (Key × V)) | dT (kvs : List (List Key × V))
 | set (S : Int → Bool) (n : Nat)
 | ins (C dx : Addr) (fs : List (Str × V))
 | own (x : Addr)
 | xd (fs : List (Str × V))
 | met (f x : Addr)
 | rng (lo hi : Int)
 | frz (o : Obj) (u : HO)
 | tbl (ps : Array Value)
 | ext (φ : Heap → Prop)

abbrev Hp := Addr → Option HO
def upd (H : Hp) (a : Addr) (o : HO) : Hp := fun b => if b = a then some o else H b
theorem upd_same {H : Hp} {a : Addr} {o : HO} : upd H a o a = some o := by unfold upd; rw [if_pos rfl]
theorem upd_ne {H : Hp} {a b : Addr} {o : HO} (h : b ≠ a) : upd H a o b = H b := by unfold upd; rw [if_neg h]
theorem ne_of {H : Hp} {a b : Addr} {o u : HO} (h : H a = some o) (h' : H b = some u) (d : o ≠ u) : a ≠ b := by
 intro e; subst e; rw [h] at h'; exact d (Option.some.inj h')
theorem ne_of_none {H : Hp} {a b : Addr} {o : HO} (h : H a = some o) (h' : H b = none) : a ≠ b := by
 intro e; subst e; rw [h] at h'; cases h'

section
variable (P : Program) (w : World)
def ObjOk (H : Hp) (h : Heap) (a : Addr) : HO → Prop
 | .lst xs => xs.length ≤ sizeLine ∧ ∃ (its : List Value) (n : Nat), Vals xs its ∧ h.get? a = some { cls := .type "list", data := .seq its.toArray n }
 | .tup xs => xs.length ≤ sizeLine ∧ ∃ its : List Value, Vals xs its ∧ IsTup h a its.toArray
 | .dK kvs => kvs.length ≤ sizeLine ∧ (a == sysModules) = false ∧ ∃ vs, KV kvs vs ∧ h.DictOf (mixKind P w) a vs
 | .dT kvs => kvs.length ≤ sizeLine ∧ (a == sysModules) = false ∧ ∃ xs : List (List Key × Addr × Value),
     Paired (fun (p : List Key × V) (q : List Key × Addr × Value) => p.1 = q.1 ∧ H q.2.1 = some (.tup (p.1.map kV)) ∧ RelV p.2 q.2.2) kvs xs ∧
     ∃ o es ep, h.get? a = some o ∧ o.ExactDict ∧ o.data = .dict es ep ∧ es.toList = xs.map (entryOfKey (tupleKind (mixKind P w))) ∧ (xs.map (·.1)).Nodup
 | .set S n => h.SetOf (intKind P w) a S n
 | .ins C dx fs => H dx = some (.own a) ∧ fs.length ≤ 1000 ∧ dx ≠ a ∧ h.get? a = some (PySem.W.instObj C dx) ∧
     ∃ mA, h.Ns1 dx mA ∧ (∀ f, RelO (fs.lookup f) (mA f)) ∧ PySem.Within mA (fs.map (·.1))
 | .own _ => ∃ o, h.get? a = some o
 | .xd fs => ∃ mA, h.Ns1 a mA ∧ ∀ f, RelO (fs.lookup f) (mA f)
 | .rng lo hi => ∃ t u v, h.get? a = some { cls := .type "range", data := .fields #[.int lo t, .int hi u, .int 1 v] }
 | .frz o u => h.get? a = some o ∧ ObjOk H h a u
 | .tbl ps => h.get? a = some { cls := .none, data := .fields ps }
 | .met f x => h.get? a = some (PySem.W.methodObj (.ref f) (.ref x))
 | .ext φ => φ h ∧ (∃ o, h.get? a = some o) ∧ ∀ h1 h2 : Heap, φ h1 → (∀ o, h1.get? a = some o → h2.get? a = some o) → φ h2
def HOk (H : Hp) (h : Heap) : Prop := ∀ a o, H a = some o → ObjOk P w H h a o
end

section
variable {P : Program} {w : World} {H H' : Hp} {h h' : Heap} {a : Addr} {o : HO}
theorem ObjOk.lt (x : ObjOk P w H h a o) : a < h.objs.size := by
 cases o with
 | lst xs => obtain ⟨_, _, _, _, e⟩ := x; exact Heap.lt_size e
 | tup xs => obtain ⟨_, _, _, p⟩ := x; exact p.lt
 | dK kvs => obtain ⟨_, _, _, _, o, _, _, e, _⟩ := x; exact Heap.lt_size e
 | dT kvs => obtain ⟨_, _, _, _, o, _, _, e, _⟩ := x; exact Heap.lt_size e
 | set S n => obtain ⟨o, _, _, _, e, _⟩ := x; exact Heap.lt_size e
 | ins C dx fs => obtain ⟨_, _, _, e, _⟩ := x; exact Heap.lt_size e
 | own y => obtain ⟨_, e⟩ := x; exact Heap.lt_size e
 | xd fs => obtain ⟨_, ⟨_, _, _, e, _⟩, _⟩ := x; exact Heap.lt_size e
 | rng lo hi => obtain ⟨_, _, _, e⟩ := x; exact Heap.lt_size e
 | frz ob u => obtain ⟨e, _⟩ := x; exact Heap.lt_size e
 | tbl ps => exact Heap.lt_size (show h.get? a = some _ from x)
 | met f y => exact Heap.lt_size (show h.get? a = some _ from x)
 | ext φ => obtain ⟨_, ⟨_, e⟩, _⟩ := x; exact Heap.lt_size e
theorem Paired.mapP {α β : Type} {F G : α → β → Prop} : ∀ {l₁ : List α} {l₂ : List β}, Paired F l₁ l₂ → (∀ a b, F a b → G a b) → Paired G l₁ l₂
 | _, _, .nil, _ => .nil
 | _, _, .cons r t, f => .cons (f _ _ r) (Paired.mapP t f)
theorem ObjOk.stay (x : ObjOk P w H h a o) (k : ∀ b u, (b = a ∨ H b = some (.own a)) → h.get? b = some u → h'.get? b = some u)
   (ho : ∀ b, H b = some (.own a) → H' b = some (.own a)) (ht : ∀ b xs, H b = some (.tup xs) → H' b = some (.tup xs)) : ObjOk P w H' h' a o := by
 induction o with
 | lst xs => obtain ⟨z, its, n, r, e⟩ := x; exact ⟨z, its, n, r, k _ _ (.inl rfl) e⟩
 | tup xs => obtain ⟨z, its, r, ob, e, c⟩ := x; exact ⟨z, its, r, ob, k _ _ (.inl rfl) e, c⟩
 | dK kvs => obtain ⟨z, y, vs, r, ob, es, ep, e, c⟩ := x; exact ⟨z, y, vs, r, ob, es, ep, k _ _ (.inl rfl) e, c⟩
 | dT kvs =>
   obtain ⟨z, y, xs, r, ob, es, ep, e, c⟩ := x
   exact ⟨z, y, xs, Paired.mapP r fun p q z => ⟨z.1, ht _ _ z.2.1, z.2.2⟩, ob, es, ep, k _ _ (.inl rfl) e, c⟩
 | set S n => obtain ⟨ob, es, ep, t, e, c⟩ := x; exact ⟨ob, es, ep, t, k _ _ (.inl rfl) e, c⟩
 | ins C dx fs =>
   obtain ⟨d, z, ne, e, mA, ⟨od, es, ep, e2, c⟩, r⟩ := x
   exact ⟨ho _ d, z, ne, k _ _ (.inl rfl) e, mA, ⟨od, es, ep, k _ _ (.inr d) e2, c⟩, r⟩
 | own y => obtain ⟨ob, e⟩ := x; exact ⟨ob, k _ _ (.inl rfl) e⟩
 | xd fs => obtain ⟨mA, ⟨od, es, ep, e, c⟩, r⟩ := x; exact ⟨mA, ⟨od, es, ep, k _ _ (.inl rfl) e, c⟩, r⟩
 | rng lo hi => obtain ⟨t, u, v, e⟩ := x; exact ⟨t, u, v, k _ _ (.inl rfl) e⟩
 | frz ob u ih => obtain ⟨e, q⟩ := x; exact ⟨k _ _ (.inl rfl) e, ih q⟩
 | tbl ps =>
   have e : h.get? a = some { cls := .none, data := .fields ps } := x
   show h'.get? a = some { cls := .none, data := .fields ps }
   exact k a _ (.inl rfl) e
 | met f y =>
   have e : h.get? a = some (PySem.W.methodObj (.ref f) (.ref y)) := x
   show h'.get? a = some (PySem.W.methodObj (.ref f) (.ref y))
   exact k a _ (.inl rfl) e
 | ext φ => obtain ⟨p, ⟨o, e⟩, st⟩ := x; exact ⟨st _ _ p fun o q => k _ _ (.inl rfl) q, ⟨o, k _ _ (.inl rfl) e⟩, st⟩
theorem HOk.lt (x : HOk P w H h) (e : H a = some o) : a < h.objs.size := (x a o e).lt
theorem HOk.fresh (x : HOk P w H h) (e : h.objs.size ≤ a) : H a = none := by
 cases q : H a with
 | none => rfl
 | some u => exact absurd (Nat.lt_of_lt_of_le (x.lt q) e) (Nat.lt_irrefl _)
theorem HOk.kept (x : HOk P w H h) (k : ∀ b u, h.get? b = some u → h'.get? b = some u) : HOk P w H h' := fun a o e =>
 (x a o e).stay (fun b u _ q => k b u q) (fun _ q => q) fun _ _ q => q
theorem HOk.laid (x : HOk P w H h) (k : ∀ b u, h.get? b = some u → h'.get? b = some u) (hp : h.objs.size ≤ a) (new : ObjOk P w (upd H a o) h' a o) : HOk P w (upd H a o) h' := fun b u e => by
 have hn := x.fresh hp
 by_cases hb : b = a
 · subst hb; rw [upd_same] at e; cases e; exact new
 · rw [upd_ne hb] at e
   exact (x b u e).stay (fun c v _ q => k c v q) (fun c q => by rw [upd_ne (ne_of_none q hn)]; exact q) fun c xs q => by rw [upd_ne (ne_of_none q hn)]; exact q
end
def Rd (H : Hp) (a : Addr) (u : HO) : Prop := H a = some u ∨ ∃ o, H a = some (.frz o u)
theorem Rd.of {H : Hp} {a : Addr} {u : HO} (h : H a = some u) : Rd H a u := .inl h
theorem Rd.ok {P : Program} {w : World} {H : Hp} {h : Heap} {a : Addr} {u : HO} (r : Rd H a u) (x : HOk P w H h) : ObjOk P w H h a u := by
 rcases r with r | ⟨o, r⟩
 · exact x a u r
 · obtain ⟨_, q⟩ := x a _ r
   exact q
def Mut : Option HO → Prop
 | some (.lst _) => True
 | some (.dK _) => True
 | some (.dT _) => True
 | some (.set _ _) => True
 | some (.ins _ _ _) => True
 | some (.ext _) => True
 | _ => False
section
variable {P : Program} {w : World} {H : Hp} {h h' : Heap} {x e : Addr} {o' : HO}
theorem HOk.write (ok : HOk P w H h) (mu : Mut (H x)) (he : e = x ∨ H e = some (.own x)) (k : ∀ b u, b ≠ e → h.get? b = some u → h'.get? b = some u) (heo : ∃ u, h'.get? e = some u)
   (new : ObjOk P w (upd H x o') h' x o') : HOk P w (upd H x o') h' := fun b u q => by
 have nown : ∀ c y, H c = some (.own y) → c ≠ x := fun c y r z => by subst z; rw [r] at mu; exact mu
 have ntup : ∀ c xs, H c = some (.tup xs) → c ≠ x := fun c xs r z => by subst z; rw [r] at mu; exact mu
 by_cases hb : b = x
 · subst hb; rw [upd_same] at q; cases q; exact new
 · rw [upd_ne hb] at q
   by_cases hbe : b = e
   · have q' : H b = some (.own x) := by
       rcases he with z | z
       · exact absurd (hbe.trans z) hb
       · rw [hbe]; exact z
     rw [q] at q'; cases q'
     obtain ⟨v, hv⟩ := heo
     exact ⟨v, by rw [hbe]; exact hv⟩
   · refine (ok b u q).stay (fun c v hc r => k c v ?_ r) (fun c r => by rw [upd_ne (nown c b r)]; exact r) fun c xs r => by rw [upd_ne (ntup c xs r)]; exact r
     rcases hc with rfl | hc
     · exact hbe
     · rintro rfl
       rcases he with z | z
       · exact nown c b hc z
       · rw [hc] at z; cases z; exact hb rfl
end
structure Un (fs ex : List Addr) (H H' : Hp) (h h' : Heap) : Prop where
 keep : ∀ b o, h.get? b = some o → H b = none → b ∉ fs → b ∉ ex → h'.get? b = some o
 slot : ∀ b o, h.get? b = some o → H b = none → b ∈ fs → b ∉ ex → ∃ sl, h'.get? b = some { o with slots := sl }
 free : ∀ b o, h.get? b = some o → H b = none → b ∉ ex → H' b = none
 there : ∀ b o, h.get? b = some o → b ∉ ex → ∃ o', h'.get? b = some o'
 tups : ∀ b xs, H b = some (.tup xs) → H' b = some (.tup xs)
 frzs : ∀ b o u, H b = some (.frz o u) → H' b = some (.frz o u)
 tbls : ∀ b ps, H b = some (.tbl ps) → ∃ more, H' b = some (.tbl (ps ++ more))
section
variable {fs fs' ex ex' : List Addr} {H H1 H2 : Hp} {h h1 h2 h' : Heap} {a x e : Addr} {o : HO}
theorem Un.any (u : Un fs ex H H1 h h1) {b : Addr} {ob : Obj} (q : h.get? b = some ob) (n : H b = none) (hx : b ∉ ex) : ∃ sl, h1.get? b = some { ob with slots := sl } := by
 by_cases hb : b ∈ fs
 · exact u.slot b ob q n hb hx
 · exact ⟨ob.slots, u.keep b ob q n hb hx⟩
theorem Un.trans (a : Un fs ex H H1 h h1) (b : Un fs ex H1 H2 h1 h2) : Un fs ex H H2 h h2 where
 keep := fun c ob q n hc hx => b.keep c ob (a.keep c ob q n hc hx) (a.free c ob q n hx) hc hx
 slot := fun c ob q n hc hx => by
   obtain ⟨sl, e1⟩ := a.slot c ob q n hc hx
   obtain ⟨sl', e2⟩ := b.slot c _ e1 (a.free c ob q n hx) hc hx
   exact ⟨sl', e2⟩
 free := fun c ob q n hx => by
   obtain ⟨o', e1⟩ := a.there c ob q hx
   exact b.free c o' e1 (a.free c ob q n hx) hx
 there := fun c ob q hx => by
   obtain ⟨o', e1⟩ := a.there c ob q hx
   exact b.there c o' e1 hx
 tups := fun c xs q => b.tups c xs (a.tups c xs q)
 frzs := fun c ob xs q => b.frzs c ob xs (a.frzs c ob xs q)
 tbls := fun c ps q => by
   obtain ⟨m1, e1⟩ := a.tbls c ps q
   obtain ⟨m2, e2⟩ := b.tbls c _ e1
   exact ⟨m1 ++ m2, by rw [e2, Array.append_assoc]⟩
theorem Un.kept (k : ∀ b u, h.get? b = some u → h'.get? b = some u) : Un fs ex H H h h' :=
 ⟨fun b ob q _ _ _ => k b ob q, fun b ob q _ _ _ => ⟨ob.slots, k b ob q⟩, fun _ _ _ n _ => n, fun b ob q _ => ⟨ob, k b ob q⟩, fun _ _ q => q, fun _ _ _ q => q, fun _ ps q => ⟨#[], by rw [q]; simp⟩⟩
theorem Un.refl : Un fs ex H H h h := Un.kept fun _ _ q => q
theorem Un.laid (k : ∀ b u, h.get? b = some u → h'.get? b = some u) (hp : h.objs.size ≤ a) (hn : H a = none) : Un fs ex H (upd H a o) h h' where
 keep := fun b u q _ _ _ => k b u q
 slot := fun b u q _ _ _ => ⟨u.slots, k b u q⟩
 free := fun b u q n _ => by rw [upd_ne (Nat.ne_of_lt (Nat.lt_of_lt_of_le (Heap.lt_size q) hp))]; exact n
 there := fun b u q _ => ⟨u, k b u q⟩
 tups := fun b xs q => by rw [upd_ne (ne_of_none q hn)]; exact q
 frzs := fun b u xs q => by rw [upd_ne (ne_of_none q hn)]; exact q
 tbls := fun b ps q => ⟨#[], by rw [upd_ne (ne_of_none q hn), q]; simp⟩
theorem Un.write (mu : Mut (H x)) (he : e = x ∨ H e = some (.own x)) (k : ∀ b u, b ≠ e → h.get? b = some u → h'.get? b = some u) (heo : ∃ u, h'.get? e = some u) : Un fs ex H (upd H x o) h h' := by
 have hx : ∀ b, H b = none → b ≠ x := fun b n z => by subst z; rw [n] at mu; exact mu
 have hb : ∀ b, H b = none → b ≠ e := fun b n z => by
   subst z
   rcases he with r | r
   · exact hx b n r
   · rw [n] at r; cases r
 have hm : ∀ b u, H b = some u → ¬ Mut (some u) → b ≠ x := fun b u q nm z => by subst z; rw [q] at mu; exact nm mu
 refine ⟨fun b u q n _ _ => k b u (hb b n) q, fun b u q n _ _ => ⟨u.slots, k b u (hb b n) q⟩, fun b u q n _ => by rw [upd_ne (hx b n)]; exact n, fun b u q _ => ?_,
   fun b xs q => by rw [upd_ne (hm b _ q fun z => z)]; exact q, fun b u xs q => by rw [upd_ne (hm b _ q fun z => z)]; exact q, fun b ps q => ⟨#[], by rw [upd_ne (hm b _ q fun z => z), q]; simp⟩⟩
 by_cases hbe : b = e
 · subst hbe; exact heo
 · exact ⟨u, k b u hbe q⟩
theorem Un.mono (u : Un fs ex H H1 h h1) (hs : ∀ b ∈ fs, b ∈ fs') (hx : ∀ b ∈ ex, b ∈ ex') : Un fs' ex' H H1 h h1 :=
 ⟨fun b ob q n hb he => u.keep b ob q n (fun z => hb (hs b z)) fun z => he (hx b z), fun _ _ q n _ he => u.any q n fun z => he (hx _ z), fun b ob q n he => u.free b ob q n fun z => he (hx b z), fun b ob q he => u.there b ob q fun z => he (hx b z), u.tups, u.frzs, u.tbls⟩
end
def trk (h : Heap) (H : Hp) : List Addr := (List.range h.objs.size).filter fun a => (H a).isSome
def hidT (h : Heap) (H : Hp) : Heap := PySem.W.hideAll h (trk h H)
theorem hidT_size (h : Heap) (H : Hp) : (hidT h H).objs.size = h.objs.size := PySem.W.hideAll_size _ _
theorem hidT_get {h : Heap} {H : Hp} {b : Addr} {o : Obj} (e : h.get? b = some o) (n : H b = none) : (hidT h H).get? b = some o :=
 PySem.W.hideAll_get _ e fun hm => by
   have q : (H b).isSome = true := (List.mem_filter.mp hm).2
   rw [n] at q; simp at q
theorem of_hidT {h : Heap} {H : Hp} {b : Addr} {o : Obj} (e : (hidT h H).get? b = some o) : h.get? b = some o ∧ H b = none := by
 have e' : h.get? b = some o := PySem.W.of_hideAll (trk h H) e
 refine ⟨e', ?_⟩
 cases q : H b with
 | none => rfl
 | some x =>
   have hm : b ∈ trk h H := List.mem_filter.mpr ⟨List.mem_range.mpr (Heap.lt_size e'), by simp [q]⟩
   have z : (hidT h H).get? b = none := PySem.W.hideAll_none (trk h H) hm
   rw [z] at e; cases e
def allNews (g h : Heap) (L : Addr) : List (Addr × Obj) := (List.range h.objs.size).filterMap fun a => if a = L ∨ (g.get? a).isSome = true then none else (h.get? a).map fun o => (a, o)
def rest (g h : Heap) (L d : Addr) : List (Addr × Obj) := (allNews g h L).filter fun p => decide (p.1 ≠ d)
end L2

namespace L2
open PySem PySem.Spec PyProof.Rows
structure Mod (K : PySem.W.Frag) (mg : Str → Option Value) (base : Heap) : Prop where
 kin : K.In base
 glob : base.Ns mainGlobals mg
 blt : ∃ mb, base.Ns builtinsNs mb ∧ ∀ x : Str, x ≠ "__name__" → mb x = bootBuiltins x
 nolimit : base.NoLimit

/-- the context: a def's body (or a comprehension's block) running. base: fixed through the whole law; s₀, H₀: the entry; outer: the frames whose slots others may change (a def's callers); stack: all frames that run;
   ex: iterators that were made ahead of the entry and are walked here (a comprehension's); fn: the names whose cells were made at the entry (a def: all; a comprehension's block: its own); calm: not within an except suite; pn: pins that every state bears; xe: what is wanted of an exception that leaves the code -/
structure Cx where
 prog : Program
 w : World
 K : PySem.W.Frag
 mg : Str → Option Value
 base : Heap
 A : Around
 N : List Str
 s₀ : Shared
 H₀ : Hp
 env : Env
 outer : List Env
 stack : List Env
 ex : List Addr
 fn : Str → Bool
 calm : Bool
 pn : List (Addr × Obj)
 xe : Value → Shared → Prop
def frs (l : List Env) : List Addr := l.filterMap (·.frame)
abbrev Cx.fs (X : Cx) : List Addr := frs X.outer

def Vis (sc : Scope) (x : Str) : Prop := sc.names.lookup x = some .local ∨ sc.names.lookup x = some .cell ∨ sc.names.lookup x = some .free
def Loc (sc : Scope) (x : Str) : Prop := sc.names.lookup x = some .local ∨ sc.names.lookup x = some .cell
def Look (env : Env) (h : Heap) (m : Str → Option Value) (x : Str) (u : Value) : Prop :=
 (env.kindOf x = some .local ∧ m x = some u) ∨ ((env.kindOf x = some .cell ∨ env.kindOf x = some .free) ∧ ∃ c, env.cells.lookup x = some c ∧ h.IsCell c (some u))

structure Cx.Ok (X : Cx) : Prop where
 mod : Mod X.K X.mg X.base
 kind : X.env.scope.kind = .function
 glob : X.env.globals = mainGlobals
 blt : X.env.builtins = builtinsNs
 above : X.s₀.heap.objs.size ≤ X.env.locals
 inj : ∀ x y c, X.env.cells.lookup x = some c → X.env.cells.lookup y = some c → x = y
 has : ∀ x, (X.env.kindOf x = some .cell ∨ X.env.kindOf x = some .free) → ∃ c, X.env.cells.lookup x = some c
 cab : ∀ x c, X.fn x = true → X.env.cells.lookup x = some c → X.s₀.heap.objs.size ≤ c
 hd : X.calm = true → X.A.handled = none
 frames : X.A.frames = some X.stack
 stk : X.stack = X.outer ∨ (X.stack = X.env :: X.outer ∧ X.env.frame = some X.env.locals)
 exf : ∀ b ∈ X.ex, b ≠ X.env.locals ∧ ∀ x c, X.env.cells.lookup x = some c → c ≠ b
 bs : ∀ b o, X.base.get? b = some o → X.s₀.heap.get? b = some o ∧ X.H₀ b = none
 bsz : X.base.objs.size ≤ X.s₀.heap.objs.size
 noex : ∀ b o, X.base.get? b = some o → b ∉ X.ex
 exfs : ∀ b ∈ X.ex, b ∉ X.fs
 funs : X.s₀.heap.FunFrames X.base X.outer
 frf : ∀ b ∈ X.fs, X.H₀ b = none

structure Inv (X : Cx) (pins : List (Addr × Obj)) (σ : List (Option V)) (H : Hp) (s : Shared) : Prop where
 ok : X.Ok
 os : s.os = X.s₀.os
 bare : AllBare s.gens
 base : Un X.fs X.ex X.H₀ H X.s₀.heap s.heap
 loc : ∃ m, s.heap.Ns X.env.locals m ∧ ∀ (i : Nat) (x : Str) (v : V), X.N[i]? = some x → σ[i]? = some (some v) → Vis X.env.scope x → ∃ u, RelV v u ∧ Look X.env s.heap m x u
 cell : ∀ x c, X.env.cells.lookup x = some c → ∃ v, s.heap.IsCell c v
 free : H X.env.locals = none
 freeC : ∀ x c, X.env.cells.lookup x = some c → H c = none
 pin : ∀ p ∈ X.pn ++ pins, s.heap.get? p.1 = some p.2 ∧ H p.1 = none ∧ p.1 ≠ X.env.locals ∧ p.1 ∉ X.fs ∧ ∀ v, p.2.data ≠ .cell v
 hok : HOk X.prog X.w H s.heap
 len : σ.length = X.N.length

section
variable {X : Cx} {pins : List (Addr × Obj)} {σ : List (Option V)} {H H' : Hp} {s : Shared} {h' : Heap}

theorem Cx.Ok.nofr (ok : X.Ok) {b : Addr} {o : Obj} (e : X.base.get? b = some o) : b ∉ X.fs := fun hb => by
 have := (ok.funs.mem hb).1
 rw [e] at this; cases this
theorem Inv.bs (I : Inv X pins σ H s) : ∀ b o, X.base.get? b = some o → s.heap.get? b = some o ∧ H b = none := fun b o e =>
 ⟨I.base.keep b o (I.ok.bs b o e).1 (I.ok.bs b o e).2 (I.ok.nofr e) (I.ok.noex b o e), I.base.free b o (I.ok.bs b o e).1 (I.ok.bs b o e).2 (I.ok.noex b o e)⟩
theorem Inv.bk (I : Inv X pins σ H s) : ∀ b o, X.base.get? b = some o → s.heap.get? b = some o := fun b o e => (I.bs b o e).1
theorem Inv.mod (I : Inv X pins σ H s) : Mod X.K X.mg X.base := I.ok.mod
theorem Inv.kIn (I : Inv X pins σ H s) : X.K.In s.heap := I.ok.mod.kin.keeps I.bk
theorem Inv.nolimit (I : Inv X pins σ H s) : s.heap.NoLimit := I.ok.mod.nolimit.keeps I.bk
theorem Inv.fr (I : Inv X pins σ H s) : ∃ m, Fr X.base X.env.locals s.heap m :=
 let ⟨m, hn, _⟩ := I.loc
 ⟨m, hn, I.bk, Nat.le_trans I.ok.bsz I.ok.above⟩
theorem Inv.lt (I : Inv X pins σ H s) : X.env.locals < s.heap.objs.size := let ⟨_, hn, _⟩ := I.loc; hn.lt
theorem Inv.sz (I : Inv X pins σ H s) : X.s₀.heap.objs.size ≤ s.heap.objs.size := Nat.le_trans I.ok.above (Nat.le_of_lt I.lt)
theorem Inv.nofs (I : Inv X pins σ H s) {a : Addr} (h : s.heap.objs.size ≤ a) : a ∉ X.fs := fun hb => by
 obtain ⟨_, o, ho, _⟩ := I.ok.funs.mem hb
 exact absurd (Nat.lt_of_lt_of_le (Heap.lt_size ho) (Nat.le_trans I.sz h)) (Nat.lt_irrefl _)
theorem Inv.cne (I : Inv X pins σ H s) : ∀ x c, X.env.cells.lookup x = some c → c ≠ X.env.locals := fun x c e z => by
 obtain ⟨v, o, ho, hd⟩ := I.cell x c e
 obtain ⟨m, ⟨o', es, ep, ho', hd', _⟩, _⟩ := I.loc
 rw [z, ho'] at ho; cases ho; rw [hd'] at hd; cases hd
theorem Inv.funs (I : Inv X pins σ H s) : s.heap.FunFrames X.base X.outer := by
 have all : ∀ (l : List Env), (∀ b ∈ frs l, b ∈ X.fs) → X.s₀.heap.FunFrames X.base l → s.heap.FunFrames X.base l := by
   intro l
   induction l with
   | nil => intro _ _; trivial
   | cons env r ih =>
     intro hs hl
     obtain ⟨hk, ⟨L, o, hf, hn, ho, hd⟩, hr⟩ := hl
     have hL : L ∈ X.fs := hs L (by unfold frs; rw [List.filterMap_cons, hf]; exact List.mem_cons_self)
     obtain ⟨sl, e⟩ := I.base.slot L o ho (I.ok.frf L hL) hL fun z => I.ok.exfs L z hL
     exact ⟨hk, ⟨L, _, hf, hn, e, hd⟩, ih (fun b hb => hs b (by unfold frs; rw [List.filterMap_cons, hf]; exact List.mem_cons_of_mem _ hb)) hr⟩
 exact all X.outer (fun _ hb => hb) I.ok.funs
theorem Inv.stack (I : Inv X pins σ H s) : s.heap.FunFrames X.base X.stack := by
 rcases I.ok.stk with e | ⟨e, hf⟩
 · rw [e]; exact I.funs
 · rw [e]
   obtain ⟨m, hn, _⟩ := I.loc
   refine .cons (by rw [I.ok.kind]; decide) hf hn ?_ I.funs
   exact Heap.get?_none_of_le (Nat.le_trans I.ok.bsz I.ok.above)
theorem Inv.stkSub (I : Inv X pins σ H s) : ∀ b ∈ frs X.stack, b ∈ X.env.locals :: X.fs := fun b hb => by
 rcases I.ok.stk with e | ⟨e, hf⟩
 · rw [e] at hb; exact List.mem_cons_of_mem _ hb
 · rw [e] at hb
   unfold frs at hb
   rw [List.filterMap_cons, hf] at hb
   exact hb
theorem Inv.stkFree (I : Inv X pins σ H s) : ∀ b ∈ frs X.stack, H b = none := fun b hb => by
 rcases List.mem_cons.mp (I.stkSub b hb) with e | hb
 · rw [e]; exact I.free
 · obtain ⟨_, o, ho, _⟩ := I.ok.funs.mem hb
   exact I.base.free b o ho (I.ok.frf b hb) fun z => I.ok.exfs b z hb
theorem Inv.step {g' : Array GenState} {t' : Nat} {d' : Drawn} {ch : List Addr} (I : Inv X pins σ H s)
   (hch : ∀ b ∈ ch, (b ∈ X.ex ∨ X.s₀.heap.objs.size ≤ b) ∧ b ≠ X.env.locals ∧ (∀ x c, X.env.cells.lookup x = some c → c ≠ b) ∧ ∀ p ∈ X.pn ++ pins, p.1 ≠ b)
   (keep : ∀ b o, b ≠ X.env.locals → b ∉ X.fs → b ∉ ch → s.heap.get? b = some o → H b = none → h'.get? b = some o)
   (slot : ∀ b o, b ≠ X.env.locals → b ∈ X.fs → b ∉ ch → s.heap.get? b = some o → H b = none → ∃ sl, h'.get? b = some { o with slots := sl }) (free : ∀ b o, b ∉ ch → s.heap.get? b = some o → H b = none → H' b = none)
   (there : ∀ b o, b ∉ ch → s.heap.get? b = some o → ∃ o', h'.get? b = some o')
   (tups : ∀ b xs, H b = some (.tup xs) → H' b = some (.tup xs)) (frzs : ∀ b o u, H b = some (.frz o u) → H' b = some (.frz o u)) (tbls : ∀ b ps, H b = some (.tbl ps) → ∃ more, H' b = some (.tbl (ps ++ more)))
   (ns : ∀ m, s.heap.Ns X.env.locals m → h'.Ns X.env.locals m) (hok : HOk X.prog X.w H' h') (hg : AllBare g') :
   Inv X pins σ H' { s with heap := h', gens := g', drawn := d', toks := t' } := by
 have neL : ∀ b o, X.s₀.heap.get? b = some o → b ≠ X.env.locals := fun b o e => Nat.ne_of_lt (Nat.lt_of_lt_of_le (Heap.lt_size e) I.ok.above)
 have neC : ∀ b o, X.s₀.heap.get? b = some o → b ∉ X.ex → b ∉ ch := fun b o e hx hb => by
   rcases (hch b hb).1 with z | z
   · exact hx z
   · exact absurd (Nat.lt_of_lt_of_le (Heap.lt_size e) z) (Nat.lt_irrefl _)
 have cellK : ∀ x c, X.env.cells.lookup x = some c → ∀ v, s.heap.IsCell c v → h'.IsCell c v := fun x c e v ⟨o, ho, hd⟩ => by
   have nch : c ∉ ch := fun z => (hch c z).2.2.1 x c e rfl
   by_cases hc : c ∈ X.fs
   · obtain ⟨sl, q⟩ := slot c o (I.cne x c e) hc nch ho (I.freeC x c e)
     exact ⟨_, q, hd⟩
   · exact ⟨o, keep c o (I.cne x c e) hc nch ho (I.freeC x c e), hd⟩
 refine ⟨I.ok, I.os, hg, ⟨fun b o e n hb hx => ?_, fun b o e n hb hx => ?_, fun b o e n hx => ?_, fun b o e hx => ?_, fun b xs e => tups b xs (I.base.tups b xs e), fun b o xs e => frzs b o xs (I.base.frzs b o xs e), fun b ps e => ?_⟩, ?_, fun x c e => ?_, ?_, fun x c e => ?_, fun p hp => ?_, hok, I.len⟩
 · exact keep b o (neL b o e) hb (neC b o e hx) (I.base.keep b o e n hb hx) (I.base.free b o e n hx)
 · obtain ⟨sl, e1⟩ := I.base.slot b o e n hb hx
   obtain ⟨sl', e2⟩ := slot b _ (neL b o e) hb (neC b o e hx) e1 (I.base.free b o e n hx)
   exact ⟨sl', e2⟩
 · obtain ⟨o', e1⟩ := I.base.there b o e hx
   exact free b o' (neC b o e hx) e1 (I.base.free b o e n hx)
 · obtain ⟨o', e1⟩ := I.base.there b o e hx
   exact there b o' (neC b o e hx) e1
 · obtain ⟨m1, e1⟩ := I.base.tbls b ps e
   obtain ⟨m2, e2⟩ := tbls b _ e1
   exact ⟨m1 ++ m2, by rw [e2, Array.append_assoc]⟩
 · obtain ⟨m, hn, hl⟩ := I.loc
   refine ⟨m, ns m hn, fun i x v e1 e2 e3 => ?_⟩
   obtain ⟨u, r, l⟩ := hl i x v e1 e2 e3
   refine ⟨u, r, ?_⟩
   rcases l with l | ⟨k, c, e, z⟩
   · exact .inl l
   · exact .inr ⟨k, c, e, cellK x c e _ z⟩
 · obtain ⟨v, z⟩ := I.cell x c e
   exact ⟨v, cellK x c e v z⟩
 · obtain ⟨m, ⟨o, _, _, ho, _⟩, _⟩ := I.loc
   exact free _ o (fun z => (hch _ z).2.1 rfl) ho I.free
 · obtain ⟨v, o, ho, hd⟩ := I.cell x c e
   exact free c o (fun z => (hch c z).2.2.1 x c e rfl) ho (I.freeC x c e)
 · obtain ⟨e, n, ne, nf, d⟩ := I.pin p hp
   have nch : p.1 ∉ ch := fun z => (hch p.1 z).2.2.2 p hp rfl
   exact ⟨keep p.1 p.2 ne nf nch e n, free p.1 p.2 nch e n, ne, nf, d⟩
theorem Inv.un {t' : Nat} (I : Inv X pins σ H s) (u : Un X.fs [] H H' s.heap h') (hok : HOk X.prog X.w H' h') : Inv X pins σ H' { s with heap := h', toks := t' } := by
 obtain ⟨m, ⟨o, es, ep, ho, r⟩, _⟩ := id I.loc
 obtain ⟨sl, hL⟩ := u.any ho I.free (by simp)
 exact I.step (g' := s.gens) (d' := s.drawn) (ch := []) (fun _ z => nomatch z) (fun b o _ hb _ e n => u.keep b o e n hb (by simp)) (fun b o _ hb _ e n => u.slot b o e n hb (by simp)) (fun b o _ e n => u.free b o e n (by simp)) (fun b o _ e => u.there b o e (by simp)) u.tups u.frzs u.tbls (fun m' hm => by
   obtain ⟨o', es', ep', ho', r'⟩ := hm
   rw [ho] at ho'; cases ho'
   exact ⟨_, es', ep', hL, r'⟩) hok I.bare
theorem Inv.call {g' : Array GenState} {t' : Nat} {d' : Drawn} {ch : List Addr} (I : Inv X pins σ H s) (u : Un (frs X.stack) ch H H' s.heap h') (hok : HOk X.prog X.w H' h') (hg : AllBare g')
   (hch : ∀ b ∈ ch, (b ∈ X.ex ∨ X.s₀.heap.objs.size ≤ b) ∧ b ≠ X.env.locals ∧ (∀ x c, X.env.cells.lookup x = some c → c ≠ b) ∧ ∀ p ∈ X.pn ++ pins, p.1 ≠ b) :
   Inv X pins σ H' { s with heap := h', gens := g', drawn := d', toks := t' } := by
 obtain ⟨m, ⟨o, es, ep, ho, r⟩, _⟩ := id I.loc
 obtain ⟨sl, hL⟩ := u.any ho I.free fun z => (hch _ z).2.1 rfl
 exact I.step (ch := ch) hch (fun b o hL hb hc e n => u.keep b o e n (fun z => (List.mem_cons.mp (I.stkSub b z)).elim hL hb) hc) (fun b o _ _ hc e n => u.any e n hc) (fun b o hc e n => u.free b o e n hc) (fun b o hc e => u.there b o e hc) u.tups u.frzs u.tbls (fun m' hm => by
   obtain ⟨o', es', ep', ho', r'⟩ := hm
   rw [ho] at ho'; cases ho'
   exact ⟨_, es', ep', hL, r'⟩) hok hg
theorem Inv.turned {t' : Nat} {it : Addr} (I : Inv X pins σ H s) (k : ∀ b o, b ≠ it → s.heap.get? b = some o → h'.get? b = some o) (hn : H it = none) (hL : it ≠ X.env.locals)
   (h1 : it ∈ X.ex ∨ X.s₀.heap.objs.size ≤ it) (h2 : ∀ x c, X.env.cells.lookup x = some c → c ≠ it) (h3 : ∀ p ∈ X.pn ++ pins, p.1 ≠ it) : Inv X pins σ H { s with heap := h', toks := t' } := by
 have nit : ∀ b u, H b = some u → b ≠ it := fun b u e z => by rw [z, hn] at e; cases e
 refine I.step (g' := s.gens) (d' := s.drawn) (ch := [it]) (fun b hb => ?_) (fun b o _ _ hc e _ => k b o (fun z => hc (by simp [z])) e) (fun b o _ _ hc e _ => ⟨o.slots, k b o (fun z => hc (by simp [z])) e⟩) (fun _ _ _ _ n => n)
   (fun b o hc e => ⟨o, k b o (fun z => hc (by simp [z])) e⟩) (fun _ _ e => e) (fun _ _ _ e => e) (fun b ps e => ⟨#[], by rw [e]; simp⟩) (fun m hm => ?_) (fun b u e => ?_) I.bare
 · have e : b = it := by simpa using hb
   subst e
   exact ⟨h1, hL, h2, h3⟩
 · obtain ⟨o, es, ep, ho, r⟩ := hm
   exact ⟨o, es, ep, k _ o (Ne.symm hL) ho, r⟩
 · refine (I.hok b u e).stay (fun c v hc q => k c v ?_ q) (fun _ q => q) fun _ _ q => q
   rcases hc with z | z
   · rw [z]; exact nit b u e
   · exact nit c _ z
theorem Inv.tok (I : Inv X pins σ H s) (t : Nat) : Inv X pins σ H { s with toks := t } := I.un (h' := s.heap) (t' := t) Un.refl I.hok
theorem Inv.kept {t' : Nat} (I : Inv X pins σ H s) (k : ∀ b u, s.heap.get? b = some u → h'.get? b = some u) : Inv X pins σ H { s with heap := h', toks := t' } := I.un (Un.kept k) (I.hok.kept k)
theorem Inv.laid {a : Addr} {o : HO} {t' : Nat} (I : Inv X pins σ H s) (k : ∀ b u, s.heap.get? b = some u → h'.get? b = some u) (hp : s.heap.objs.size ≤ a) (new : ObjOk X.prog X.w (upd H a o) h' a o) :
 Inv X pins σ (upd H a o) { s with heap := h', toks := t' } := I.un (Un.laid k hp (I.hok.fresh hp)) (I.hok.laid k hp new)
theorem Inv.write {x e : Addr} {o : HO} {t' : Nat} (I : Inv X pins σ H s) (mu : Mut (H x)) (he : e = x ∨ H e = some (.own x)) (k : ∀ b u, b ≠ e → s.heap.get? b = some u → h'.get? b = some u) (heo : ∃ u, h'.get? e = some u)
 (new : ObjOk X.prog X.w (upd H x o) h' x o) : Inv X pins σ (upd H x o) { s with heap := h', toks := t' } := I.un (Un.write mu he k heo) (I.hok.write mu he k heo new)
theorem Inv.pins_of {pins' : List (Addr × Obj)} (I : Inv X pins σ H s) (h : ∀ p ∈ pins', s.heap.get? p.1 = some p.2 ∧ H p.1 = none ∧ p.1 ≠ X.env.locals ∧ p.1 ∉ X.fs ∧ ∀ v, p.2.data ≠ .cell v) : Inv X pins' σ H s :=
 ⟨I.ok, I.os, I.bare, I.base, I.loc, I.cell, I.free, I.freeC, fun p hp => (List.mem_append.mp hp).elim (fun z => I.pin p (List.mem_append_left _ z)) (h p), I.hok, I.len⟩

theorem nodup_ix {N : List Str} (hN : N.Nodup) {i j : Nat} {x : Str} (a : N[i]? = some x) (b : N[j]? = some x) : i = j := by
 obtain ⟨h1, e1⟩ := List.getElem?_eq_some_iff.mp a
 obtain ⟨h2, e2⟩ := List.getElem?_eq_some_iff.mp b
 exact (List.getElem_inj hN).mp (e1.trans e2.symm)
theorem store_ok2 {M : Model} {A : Around} {E : Value → Shared → Prop} {i : Nat} {x : Str} {v : V} {u : Value} {Q : Unit → Shared → Prop} (I : Inv X pins σ H s) (hN : X.N.Nodup) (hi : X.N[i]? = some x) (hx : Loc X.env.scope x) (r : RelV v u)
   (h : ∀ s', Inv X pins (σ.set i (some v)) H s' → (∃ a, Heap.SameBut a s.heap s'.heap ∧ (a = X.env.locals ∨ X.env.cells.lookup x = some a)) → Q () s') (hf : X.fn x = true ∨ X.env.scope.names.lookup x = some .local := by first | exact .inl rfl | exact .inr rfl | assumption) : wpAny M A (storeName X.env x u) Q E s := by
 obtain ⟨m, hn, hl⟩ := id I.loc
 have hcls : (X.env.scope.kind == .class || (X.env.scope.kind == .module && X.env.locals != X.env.globals)) = false := by rw [I.ok.kind]; rfl
 have hiσ : i < σ.length := by rw [I.len]; exact (List.getElem?_eq_some_iff.mp hi).1
 have cne := I.cne
 have tracked : ∀ {a : Addr} {h' : Heap}, (∃ o, s.heap.get? a = some o ∧ H a = none) → Heap.SameBut a s.heap h' → HOk X.prog X.w H h' := fun {a h'} ha hs b ob e => by
   obtain ⟨_, _, hfree⟩ := ha
   refine (I.hok b ob e).stay (fun c w' hc q => (hs.2 c ?_).trans q) (fun _ q => q) fun _ _ q => q
   rintro rfl
   rcases hc with rfl | hc
   · rw [hfree] at e; cases e
   · rw [hfree] at hc; cases hc
 rcases hx with hk | hk
 · refine wpAny_storeName_local hk hn (fun h' hn' hs => ?_) hcls
   obtain ⟨oL, _, _, hoL, _⟩ := id hn
   refine h _ ⟨I.ok, I.os, I.bare, ⟨fun b o e n hb hx => ?_, fun b o e n hb hx => ?_, I.base.free, fun b o e hx => ?_, I.base.tups, I.base.frzs, I.base.tbls⟩, ⟨_, hn', fun j y v' e1 e2 e3 => ?_⟩, fun y c e => ?_, I.free, I.freeC, fun p hp => ?_, tracked ⟨oL, hoL, I.free⟩ hs, by simpa using I.len⟩ ⟨_, hs, .inl rfl⟩
   · exact (hs.2 b (Nat.ne_of_lt (Nat.lt_of_lt_of_le (Heap.lt_size e) I.ok.above))).trans (I.base.keep b o e n hb hx)
   · obtain ⟨sl, e1⟩ := I.base.slot b o e n hb hx
     exact ⟨sl, (hs.2 b (Nat.ne_of_lt (Nat.lt_of_lt_of_le (Heap.lt_size e) I.ok.above))).trans e1⟩
   · obtain ⟨o', e1⟩ := I.base.there b o e hx
     exact ⟨o', (hs.2 b (Nat.ne_of_lt (Nat.lt_of_lt_of_le (Heap.lt_size e) I.ok.above))).trans e1⟩
   · by_cases hj : j = i
     · subst hj
       rw [hi] at e1; cases e1
       rw [List.getElem?_set_self hiσ] at e2
       cases e2
       exact ⟨u, r, .inl ⟨hk, by simp⟩⟩
     · rw [List.getElem?_set_ne (Ne.symm hj)] at e2
       obtain ⟨u', r', q⟩ := hl j y v' e1 e2 e3
       refine ⟨u', r', ?_⟩
       rcases q with ⟨k, e⟩ | ⟨k, c, e, z⟩
       · refine .inl ⟨k, ?_⟩
         have : y ≠ x := fun e => hj (nodup_ix hN e1 (e ▸ hi))
         simp [this, e]
       · exact .inr ⟨k, c, e, z.sameBut hs (cne y c e)⟩
   · obtain ⟨w', z⟩ := I.cell y c e
     exact ⟨w', z.sameBut hs (cne y c e)⟩
   · obtain ⟨e, n, ne, nf, d⟩ := I.pin p hp
     exact ⟨(hs.2 p.1 ne).trans e, n, ne, nf, d⟩
 · have hfn : X.fn x = true := by
     rcases hf with z | z
     · exact z
     · rw [z] at hk; cases hk
   obtain ⟨c, hc⟩ := I.ok.has x (.inl hk)
   obtain ⟨w', z⟩ := I.cell x c hc
   refine wpAny_storeName_cell I.ok.kind hk hc z (fun h' hc' hs => ?_)
   obtain ⟨oc, hoc, hocd⟩ := id z
   refine h { s with heap := h' } ⟨I.ok, I.os, I.bare, ⟨fun b o e n hb hx => ?_, fun b o e n hb hx => ?_, I.base.free, fun b o e hx => ?_, I.base.tups, I.base.frzs, I.base.tbls⟩, ⟨m, hn.sameBut hs (Ne.symm (cne x c hc)), fun j y v' e1 e2 e3 => ?_⟩, fun y c' e => ?_, I.free, I.freeC, fun p hp => ?_, tracked ⟨oc, hoc, I.freeC x c hc⟩ hs, by simpa using I.len⟩ ⟨c, hs, .inr hc⟩
   · exact (hs.2 b (Nat.ne_of_lt (Nat.lt_of_lt_of_le (Heap.lt_size e) (I.ok.cab x c hfn hc)))).trans (I.base.keep b o e n hb hx)
   · obtain ⟨sl, e1⟩ := I.base.slot b o e n hb hx
     exact ⟨sl, (hs.2 b (Nat.ne_of_lt (Nat.lt_of_lt_of_le (Heap.lt_size e) (I.ok.cab x c hfn hc)))).trans e1⟩
   · obtain ⟨o', e1⟩ := I.base.there b o e hx
     exact ⟨o', (hs.2 b (Nat.ne_of_lt (Nat.lt_of_lt_of_le (Heap.lt_size e) (I.ok.cab x c hfn hc)))).trans e1⟩
   · by_cases hj : j = i
     · subst hj
       rw [hi] at e1; cases e1
       rw [List.getElem?_set_self hiσ] at e2
       cases e2
       exact ⟨u, r, .inr ⟨.inl hk, c, hc, hc'⟩⟩
     · rw [List.getElem?_set_ne (Ne.symm hj)] at e2
       obtain ⟨u', r', q⟩ := hl j y v' e1 e2 e3
       refine ⟨u', r', ?_⟩
       rcases q with q | ⟨k, c', e, z'⟩
       · exact .inl q
       · refine .inr ⟨k, c', e, z'.sameBut hs ?_⟩
         rintro rfl
         exact hj (nodup_ix hN e1 (I.ok.inj _ _ _ e hc ▸ hi))
   · by_cases hcc : c' = c
     · subst hcc; exact ⟨_, hc'⟩
     · obtain ⟨w2, z2⟩ := I.cell y c' e
       exact ⟨w2, z2.sameBut hs hcc⟩
   · obtain ⟨e, n, ne, nf, d⟩ := I.pin p hp
     refine ⟨(hs.2 p.1 ?_).trans e, n, ne, nf, d⟩
     intro q
     rw [q, hoc] at e
     have q' : oc = p.2 := Option.some.inj e
     exact d w' (by rw [← q']; exact hocd)
theorem store_ok {M : Model} {A : Around} {E : Value → Shared → Prop} {i : Nat} {x : Str} {v : V} {u : Value} {Q : Unit → Shared → Prop} (I : Inv X pins σ H s) (hN : X.N.Nodup) (hi : X.N[i]? = some x) (hx : Loc X.env.scope x) (r : RelV v u)
   (h : ∀ s', Inv X pins (σ.set i (some v)) H s' → Q () s') (hf : X.fn x = true ∨ X.env.scope.names.lookup x = some .local := by first | exact .inl rfl | exact .inr rfl | assumption) : wpAny M A (storeName X.env x u) Q E s :=
 store_ok2 I hN hi hx r (fun s' I' _ => h s' I') hf
theorem Inv.call' {s' : Shared} {ch : List Addr} (I : Inv X pins σ H s) (ho : s'.os = s.os) (u : Un (frs X.stack) ch H H' s.heap s'.heap) (hok : HOk X.prog X.w H' s'.heap) (hg : AllBare s'.gens)
   (hch : ∀ b ∈ ch, (b ∈ X.ex ∨ X.s₀.heap.objs.size ≤ b) ∧ b ≠ X.env.locals ∧ (∀ x c, X.env.cells.lookup x = some c → c ≠ b) ∧ ∀ p ∈ X.pn ++ pins, p.1 ≠ b) : Inv X pins σ H' s' := by
 obtain ⟨h', g', d', t', o'⟩ := s'
 have e : o' = s.os := ho
 subst e
 exact I.call (g' := g') (t' := t') (d' := d') u hok hg hch
end
abbrev XK := Value → Option Addr → Hp → Prop
abbrev St := List (Option V)
abbrev VK := V → Hp → Prop
abbrev TE := St → Hp → VK → Prop
abbrev TT := St → Hp → (Bool → Hp → Prop) → Prop
abbrev TA := St → Hp → (List V → Hp → Prop) → Prop
structure Ends where
 nx : St → Hp → Prop
 rt : VK
 bk : St → Hp → Prop := fun _ _ => False
 ct : St → Hp → Prop := fun _ _ => False
abbrev TS := Ends → St → Hp → Prop

def EP (X : Cx) (pins : List (Addr × Obj)) (σ : St) (Q : VK) (u : Value) (s' : Shared) : Prop := ∃ v H', Inv X pins σ H' s' ∧ RelV v u ∧ Q v H'
def TP (X : Cx) (pins : List (Addr × Obj)) (σ : St) (Q : Bool → Hp → Prop) (b : Bool) (s' : Shared) : Prop := ∃ H', Inv X pins σ H' s' ∧ Q b H'
def AP (X : Cx) (pins : List (Addr × Obj)) (σ : St) (Q : List V → Hp → Prop) (us : List Value) (s' : Shared) : Prop := ∃ vs H', Inv X pins σ H' s' ∧ Vals vs us ∧ Q vs H'
def SP (X : Cx) (pins : List (Addr × Obj)) (D : Ends) (f : Flow) (s' : Shared) : Prop :=
 match f with
 | .next => ∃ σ' H', Inv X pins σ' H' s' ∧ D.nx σ' H'
 | .brk => ∃ σ' H', Inv X pins σ' H' s' ∧ D.bk σ' H'
 | .cont => ∃ σ' H', Inv X pins σ' H' s' ∧ D.ct σ' H'
 | .ret u => ∃ v σ' H', Inv X pins σ' H' s' ∧ RelV v u ∧ D.rt v H'

def PE (X : Cx) (e : Expr) (t : TE) : Prop :=
 ∀ (pins : List (Addr × Obj)) (s : Shared) (σ : St) (H : Hp) (Q : VK), Inv X pins σ H s → t σ H Q → wpAny (model X.prog X.w) X.A (eval e X.env) (EP X pins σ Q) X.xe s
def PT (X : Cx) (e : Expr) (t : TT) : Prop :=
 ∀ (pins : List (Addr × Obj)) (s : Shared) (σ : St) (H : Hp) (Q : Bool → Hp → Prop), Inv X pins σ H s → t σ H Q → wpAny (model X.prog X.w) X.A (isTrue e X.env (eval e X.env)) (TP X pins σ Q) X.xe s
def PW (X : Cx) (e : Expr) (t : TT) : Prop :=
 ∀ (whole : Sem Value) (pins : List (Addr × Obj)) (s : Shared) (σ : St) (H : Hp) (Q : Bool → Hp → Prop), Inv X pins σ H s → t σ H Q → wpAny (model X.prog X.w) X.A (isTrue e X.env whole) (TP X pins σ Q) X.xe s
theorem PW.pt {X : Cx} {e : Expr} {t : TT} (h : PW X e t) : PT X e t := h _
def PA (X : Cx) (es : List Expr) (t : TA) : Prop :=
 ∀ (pos : Pos) (pins : List (Addr × Obj)) (s : Shared) (σ : St) (H : Hp) (Q : List V → Hp → Prop), Inv X pins σ H s → t σ H Q → wpAny (model X.prog X.w) X.A (spliced (backTo pos (starEach es X.env))) (AP X pins σ Q) X.xe s
def PS (X : Cx) (st : Stmt) (t : TS) : Prop :=
 ∀ (pins : List (Addr × Obj)) (s : Shared) (σ : St) (H : Hp) (D : Ends), Inv X pins σ H s → t D σ H → wpAny (model X.prog X.w) X.A (exec st X.env) (SP X pins D) X.xe s
def PSs (X : Cx) (st : List Stmt) (t : TS) : Prop :=
 ∀ (pins : List (Addr × Obj)) (s : Shared) (σ : St) (H : Hp) (D : Ends), Inv X pins σ H s → t D σ H → wpAny (model X.prog X.w) X.A (execs st X.env) (SP X pins D) X.xe s
theorem thn {α : Type} {t : Sem α} {Q Q' : α → Shared → Prop} {M : Model} {A : Around} {E : Value → Shared → Prop} {s : Shared} (h : wpAny M A t Q E s) (hQ : ∀ a s, Q a s → Q' a s) : wpAny M A t Q' E s := wpAny_mono h hQ fun _ _ x => x
end L2

namespace L2
open PySem PySem.Spec PyProof.Rows
section
variable {X : Cx}
def tVar (i : Nat) : TE := fun σ H Q => ∃ v, σ[i]? = some (some v) ∧ Q v H
def tC (v : V) : TE := fun _ H Q => Q v H
theorem pe_var {i : Nat} {x : Str} {pos : Pos} (hN : X.N[i]? = some x) (hv : Vis X.env.scope x) (hd : (x == ("__debug__" : Str)) = false := by decide) (hcd : (x == ("__classdict__" : Str)) = false := by decide) : PE X (.Name x pos) (tVar i) := by
 intro pins s σ H Q I h
 obtain ⟨v, e, h⟩ := h
 obtain ⟨m, hn, hl⟩ := I.loc
 obtain ⟨u, r, l⟩ := hl i x v hN e hv
 have fin : EP X pins σ Q u s := ⟨v, H, I, r, h⟩
 rcases l with ⟨hk, hm⟩ | ⟨hk, c, hc, hcell⟩
 · exact wpAny_Name (wpAny_loadName_local I.ok.kind hk hn hm fin) hd
 · rcases hk with hk | hk
   · exact wpAny_Name (wpAny_loadName_cell I.ok.kind hk hc hcell fin) hd
   · exact wpAny_Name (wpAny_loadName_free I.ok.kind hk hc hcell fin hcd) hd
theorem pe_int {i j pos} : PE X (.Constant (.int i) j pos) (tC (.int i)) := fun _ _ _ H _ I h => wpAny_Constant_int ⟨.int i, H, I.tok _, ⟨_, rfl⟩, h⟩
theorem pe_bl {b j pos} : PE X (.Constant (.bool b) j pos) (tC (.bl b)) := fun _ _ _ H _ I h => Constant_bool ⟨.bl b, H, I, rfl, h⟩
theorem pe_non {j pos} : PE X (.Constant .none j pos) (tC .non) := fun _ _ _ H _ I h => Constant_none ⟨.non, H, I, rfl, h⟩
theorem pe_str {x j pos} : PE X (.Constant (.str x) j pos) (tC (.str x)) := fun _ _ _ H _ I h => Calls.Constant_str ⟨.str x, H, I.tok _, ⟨_, rfl⟩, h⟩
def Gl (X : Cx) (x : Str) : Prop := X.env.kindOf x = some .globalImplicit
theorem ld_glob {E : Value → Shared → Prop} {pins : List (Addr × Obj)} {s : Shared} {σ : St} {H : Hp} {x : Str} {u : Value} {pos : Pos} {Q : Value → Shared → Prop} (I : Inv X pins σ H s) (hg : Gl X x) (hm : X.mg x = some u) (h : Q u s)
   (hd : (x == ("__debug__" : Str)) = false := by decide) : wpAny (model X.prog X.w) X.A (eval (.Name x pos) X.env) Q E s :=
 Calls.Name_function_global I.ok.kind hg (Calls.loadGlobal_global (by rw [I.ok.glob]; exact I.mod.glob.keeps I.bk) hm h) hd
theorem ld_blt {E : Value → Shared → Prop} {pins : List (Addr × Obj)} {s : Shared} {σ : St} {H : Hp} {x : Str} {u : Value} {pos : Pos} {Q : Value → Shared → Prop} (I : Inv X pins σ H s) (hg : Gl X x) (hm : X.mg x = none) (hv : bootBuiltins x = some u) (h : Q u s)
   (hn : x ≠ "__name__" := by decide) (hd : (x == ("__debug__" : Str)) = false := by decide) : wpAny (model X.prog X.w) X.A (eval (.Name x pos) X.env) Q E s := by
 obtain ⟨mb, h1, h2⟩ := I.mod.blt
 exact Calls.Name_function_global I.ok.kind hg (Calls.loadGlobal_builtin (by rw [I.ok.glob]; exact I.mod.glob.keeps I.bk) hm (by rw [I.ok.blt]; exact h1.keeps I.bk) ((h2 x hn).trans hv) h) hd
theorem pe_glob {x : Str} {v : V} {u : Value} {pos : Pos} (hg : Gl X x) (hm : X.mg x = some u) (r : RelV v u) (hd : (x == ("__debug__" : Str)) = false := by decide) : PE X (.Name x pos) (tC v) :=
 fun _ _ _ H _ I h => ld_glob I hg hm ⟨v, H, I, r, h⟩ hd
theorem pe_bltn {x : Str} {v : V} {u : Value} {pos : Pos} (hg : Gl X x) (hm : X.mg x = none) (hv : bootBuiltins x = some u) (r : RelV v u) (hn : x ≠ "__name__" := by decide) (hd : (x == ("__debug__" : Str)) = false := by decide) : PE X (.Name x pos) (tC v) :=
 fun _ _ _ H _ I h => ld_blt I hg hm hv ⟨v, H, I, r, h⟩ hn hd
variable {a b : Expr} {ta tb : TE} {pos : Pos}
def PC (X : Cx) (op : CmpOp) (a b : Expr) (t : TE) : Prop :=
 ∀ (pins : List (Addr × Obj)) (s : Shared) (σ : St) (H : Hp) (Q : VK), Inv X pins σ H s → t σ H Q →
   wpAny (model X.prog X.w) X.A (eval a X.env) (fun v s₁ => wpAny (model X.prog X.w) X.A (eval b X.env) (fun u s₂ => wpAny (model X.prog X.w) X.A (compareOp op v u) (EP X pins σ Q) X.xe s₂) X.xe s₁) X.xe s
theorem nobehind (b : Expr) {op : CmpOp} (h : op ≠ .In) (h2 : op ≠ .NotIn) : behindInMarks op b = false := by
 have e1 : (op == CmpOp.In) = false := by cases op <;> first | rfl | exact absurd rfl h
 have e2 : (op == CmpOp.NotIn) = false := by cases op <;> first | rfl | exact absurd rfl h2
 cases b <;> simp [behindInMarks, e1, e2]
def tB (t : TE) : TT := fun σ H Q => t σ H fun x H1 => ∃ c, x = .bl c ∧ Q c H1
theorem pt_cmp {op : CmpOp} {t : TE} (h : PC X op a b t) (h1 : behindInMarks op b = false := by first | exact nobehind _ (by decide) (by decide) | rfl) : PT X (.Compare a [op] [b] pos) (tB t) := by
 intro pins s σ H Q I hw
 refine wpAny_isTrue_Compare1 (thn (h pins s σ H _ I hw) fun v s1 h1 => thn h1 fun u s2 h2 => thn h2 fun c s3 ⟨x, H1, I1, r1, q1⟩ => ?_) h1
 obtain ⟨d, rfl, q⟩ := q1
 cases r1
 exact wpAny_truthy_bool ⟨H1, I1, q⟩
theorem pt_val {e : Expr} {t : TE} (h : PE X e t) (he : ∀ whole, isTrue e X.env whole = (do let v ← whole; standAt e.pos; holding [v] (truthy v)) := by intro _; rfl) : PT X e (tB t) := by
 intro pins s σ H Q I hw
 refine isTrue_plain (thn (h pins s σ H _ I hw) fun v s1 ⟨x, H1, I1, r1, q1⟩ => ?_) (he _)
 obtain ⟨d, rfl, q⟩ := q1
 cases r1
 exact wpAny_truthy_bool ⟨H1, I1, q⟩
variable {tA tB' : TT} {rest : List Expr}
def tAnd (t u : TT) : TT := fun σ H Q => t σ H fun c H1 => if c = true then u σ H1 Q else Q false H1
def tOr (t u : TT) : TT := fun σ H Q => t σ H fun c H1 => if c = true then Q true H1 else u σ H1 Q
def tNot (t : TT) : TT := fun σ H Q => t σ H fun c H1 => Q (!c) H1
theorem pw_and1 (ha : PT X a tA) : PW X (.BoolOp .And [a] pos) tA := by
 intro wh pins s σ H Q I h
 refine isTrue_and (thn (ha pins s σ H Q I h) fun c s1 e => ?_)
 cases c with
 | true => exact isTrue_and_nil e
 | false => exact e
theorem pw_or1 (ha : PT X a tA) : PW X (.BoolOp .Or [a] pos) tA := by
 intro wh pins s σ H Q I h
 refine isTrue_or (thn (ha pins s σ H Q I h) fun c s1 e => ?_)
 cases c with
 | false => exact isTrue_or_nil e
 | true => exact e
theorem pw_and (ha : PT X a tA) (hb : PW X (.BoolOp .And (b :: rest) pos) tB') : PW X (.BoolOp .And (a :: b :: rest) pos) (tAnd tA tB') := by
 intro wh pins s σ H Q I h
 refine isTrue_and (thn (ha pins s σ H _ I h) fun c s1 ⟨H1, I1, q1⟩ => ?_)
 cases c with
 | true => exact hb wh pins s1 σ H1 Q I1 q1
 | false => exact ⟨H1, I1, q1⟩
theorem pw_or (ha : PT X a tA) (hb : PW X (.BoolOp .Or (b :: rest) pos) tB') : PW X (.BoolOp .Or (a :: b :: rest) pos) (tOr tA tB') := by
 intro wh pins s σ H Q I h
 refine isTrue_or (thn (ha pins s σ H _ I h) fun c s1 ⟨H1, I1, q1⟩ => ?_)
 cases c with
 | true => exact ⟨H1, I1, q1⟩
 | false => exact hb wh pins s1 σ H1 Q I1 q1
theorem pt_not (ha : PT X a tA) : PT X (.UnaryOp .Not a pos) (tNot tA) := by
 intro pins s σ H Q I h
 exact isTrue_not (ha pins s σ H (fun c H1 => Q (!c) H1) I h)
def tAndV (ta tb : TE) : TE := fun σ H Q => ta σ H fun x H1 => ∃ c, x = .bl c ∧ if c = true then tb σ H1 Q else Q (.bl false) H1
def tOrV (ta tb : TE) : TE := fun σ H Q => ta σ H fun x H1 => ∃ c, x = .bl c ∧ if c = true then Q (.bl true) H1 else tb σ H1 Q
theorem pe_one {op} {t : TE} (h : PE X a t) : PE X (.BoolOp op [a] pos) t := fun pins s σ H Q I hw => BoolOp_one (h pins s σ H Q I hw)
theorem pe_and (ha : PE X a ta) (hb : PE X (.BoolOp .And (b :: rest) pos) tb) : PE X (.BoolOp .And (a :: b :: rest) pos) (tAndV ta tb) := by
 intro pins s σ H Q I h
 refine BoolOp_and (thn (ha pins s σ H _ I h) fun v s1 ⟨x, H1, I1, r1, q1⟩ => ?_)
 obtain ⟨c, rfl, q1⟩ := q1
 cases r1
 refine wpAny_truthy_bool ?_
 cases c with
 | true => exact hb pins s1 σ H1 Q I1 q1
 | false => exact ⟨.bl false, H1, I1, rfl, q1⟩
theorem pe_or (ha : PE X a ta) (hb : PE X (.BoolOp .Or (b :: rest) pos) tb) : PE X (.BoolOp .Or (a :: b :: rest) pos) (tOrV ta tb) := by
 intro pins s σ H Q I h
 refine BoolOp_or (thn (ha pins s σ H _ I h) fun v s1 ⟨x, H1, I1, r1, q1⟩ => ?_)
 obtain ⟨c, rfl, q1⟩ := q1
 cases r1
 refine wpAny_truthy_bool ?_
 cases c with
 | false => exact hb pins s1 σ H1 Q I1 q1
 | true => exact ⟨.bl true, H1, I1, rfl, q1⟩
def tIf (t : TT) (ta tb : TE) : TE := fun σ H Q => t σ H fun c H1 => if c = true then ta σ H1 Q else tb σ H1 Q
theorem pe_ifExp {c : Expr} (hc : PT X c tA) (ha : PE X a ta) (hb : PE X b tb) : PE X (.IfExp c a b pos) (tIf tA ta tb) := by
 intro pins s σ H Q I h
 refine wpAny_IfExp (thn (hc pins s σ H _ I h) fun d s1 ⟨H1, I1, q1⟩ => ?_)
 cases d with
 | true => exact ha pins s1 σ H1 Q I1 q1
 | false => exact hb pins s1 σ H1 Q I1 q1
end
end L2

namespace L2
open PySem PySem.Spec PyProof.Rows
def SqL (K : PySem.W.Frag) (H : Hp) (a : Addr) (xs : List V) : Prop :=
 Rd H a (.lst xs) ∨
   ∃ (o : Obj) (its : Array Value) (n : Nat), K.lookup a = some o ∧ o.cls = .type "list" ∧ o.dict = none ∧ o.data = .seq its n ∧ its.size ≤ sizeLine ∧ Vals xs its.toList
def SqT (K : PySem.W.Frag) (H : Hp) (a : Addr) (xs : List V) : Prop :=
 Rd H a (.tup xs) ∨
   ∃ (o : Obj) (its : Array Value) (n : Nat), K.lookup a = some o ∧ o.cls = .type "tuple" ∧ o.data = .seq its n ∧ its.size ≤ sizeLine ∧ Vals xs its.toList
def absV : Value → Option V
 | .none => some .non
 | .bool b => some (.bl b)
 | .int i _ => some (.int i)
 | .str x _ => some (.str x)
 | .bytes b _ => some (.byt b)
 | .float b _ => some (.flt b)
 | .ref a => some (.ref a)
 | .type n => some (.ty n)
 | _ => none
theorem RelV.abs {x : V} {u : Value} (r : RelV x u) : absV u = some x := by
 cases x with
 | non => cases r; rfl
 | bl _ => cases r; rfl
 | int _ => obtain ⟨t, rfl⟩ := r; rfl
 | str _ => obtain ⟨t, rfl⟩ := r; rfl
 | byt _ => obtain ⟨t, rfl⟩ := r; rfl
 | flt _ => obtain ⟨t, rfl⟩ := r; rfl
 | ref _ => cases r; rfl
 | ty _ => cases r; rfl
theorem RelV.inj {x y : V} {u : Value} (r : RelV x u) (q : RelV y u) : x = y := Option.some.inj (r.abs.symm.trans q.abs)
theorem Vals.inj : ∀ {xs ys : List V} {us : List Value}, Vals xs us → Vals ys us → xs = ys
 | _, _, _, .nil, .nil => rfl
 | _, _, _, .cons r t, .cons r' t' => by rw [r.inj r', Vals.inj t t']
section
variable {X : Cx} {pins : List (Addr × Obj)} {σ : St} {H : Hp} {s : Shared} {a : Addr} {xs ys : List V}
theorem SqL.of {K : PySem.W.Frag} (h : H a = some (.lst xs)) : SqL K H a xs := .inl (.inl h)
theorem SqT.of {K : PySem.W.Frag} (h : H a = some (.tup xs)) : SqT K H a xs := .inl (.inl h)
theorem Inv.list (I : Inv X pins σ H s) (h : SqL X.K H a xs) : ∃ its : List Value, Vals xs its ∧ PlainL s.heap a its.toArray ∧ xs.length ≤ sizeLine := by
 rcases h with h | ⟨o, its, n, hk, hc, hd, hs, hz, r⟩
 · obtain ⟨z, its, n, r, e⟩ := h.ok I.hok
   exact ⟨its, r, ⟨_, n, e, rfl, rfl, rfl⟩, z⟩
 · refine ⟨its.toList, r, ⟨o, n, I.kIn a o hk, hc, hd, by simpa using hs⟩, ?_⟩
   have e := r.length
   simp only [Array.length_toList] at e
   omega
theorem Inv.tuple (I : Inv X pins σ H s) (h : SqT X.K H a xs) : ∃ its : List Value, Vals xs its ∧ IsTup s.heap a its.toArray ∧ xs.length ≤ sizeLine := by
 rcases h with h | ⟨o, its, n, hk, hc, hs, hz, r⟩
 · obtain ⟨z, its, r, p⟩ := h.ok I.hok
   exact ⟨its, r, p, z⟩
 · refine ⟨its.toList, r, ⟨o, I.kIn a o hk, hc, n, by simpa using hs⟩, ?_⟩
   have e := r.length
   simp only [Array.length_toList] at e
   omega
theorem Inv.list_inj (I : Inv X pins σ H s) (h : SqL X.K H a xs) (h' : SqL X.K H a ys) : xs = ys := by
 obtain ⟨its, r, ⟨o, n, e, _, _, d⟩, _⟩ := I.list h
 obtain ⟨its', r', ⟨o', n', e', _, _, d'⟩, _⟩ := I.list h'
 rw [e] at e'; cases e'
 rw [d] at d'
 injection d' with d1 _
 have : its = its' := by simpa using congrArg Array.toList d1
 subst this
 exact r.inj r'
theorem Inv.tuple_inj (I : Inv X pins σ H s) (h : SqT X.K H a xs) (h' : SqT X.K H a ys) : xs = ys := by
 obtain ⟨its, r, ⟨o, e, _, n, d⟩, _⟩ := I.tuple h
 obtain ⟨its', r', ⟨o', e', _, n', d'⟩, _⟩ := I.tuple h'
 rw [e] at e'; cases e'
 rw [d] at d'
 injection d' with d1 _
 have : its = its' := by simpa using congrArg Array.toList d1
 subst this
 exact r.inj r'
end
abbrev Cx.wish (X : Cx) (E : Value → Shared → Prop) : Cx := { X with xe := E }
abbrev Cx.nox (X : Cx) : Cx := X.wish fun _ _ => False
theorem Cx.Ok.wish {X : Cx} (ok : X.Ok) (E : Value → Shared → Prop) : (X.wish E).Ok :=
 ⟨ok.mod, ok.kind, ok.glob, ok.blt, ok.above, ok.inj, ok.has, ok.cab, ok.hd, ok.frames, ok.stk, ok.exf, ok.bs, ok.bsz, ok.noex, ok.exfs, ok.funs, ok.frf⟩
theorem Cx.Ok.unwish {X : Cx} {E : Value → Shared → Prop} (ok : (X.wish E).Ok) : X.Ok :=
 ⟨ok.mod, ok.kind, ok.glob, ok.blt, ok.above, ok.inj, ok.has, ok.cab, ok.hd, ok.frames, ok.stk, ok.exf, ok.bs, ok.bsz, ok.noex, ok.exfs, ok.funs, ok.frf⟩
section
variable {X : Cx} {pins : List (Addr × Obj)} {σ : St} {H : Hp} {s : Shared} {E : Value → Shared → Prop}
theorem Inv.wish (I : Inv X pins σ H s) (E : Value → Shared → Prop) : Inv (X.wish E) pins σ H s := ⟨I.ok.wish E, I.os, I.bare, I.base, I.loc, I.cell, I.free, I.freeC, I.pin, I.hok, I.len⟩
theorem Inv.unwish (I : Inv (X.wish E) pins σ H s) : Inv X pins σ H s := ⟨I.ok.unwish, I.os, I.bare, I.base, I.loc, I.cell, I.free, I.freeC, I.pin, I.hok, I.len⟩
theorem SP.unwish {D : Ends} {f : Flow} {s' : Shared} (h : SP (X.wish E) pins D f s') : SP X pins D f s' := by
 cases f with
 | next => obtain ⟨σ', H', I, q⟩ := h; exact ⟨σ', H', I.unwish, q⟩
 | brk => obtain ⟨σ', H', I, q⟩ := h; exact ⟨σ', H', I.unwish, q⟩
 | cont => obtain ⟨σ', H', I, q⟩ := h; exact ⟨σ', H', I.unwish, q⟩
 | ret u => obtain ⟨v, σ', H', I, r, q⟩ := h; exact ⟨v, σ', H', I.unwish, r, q⟩
theorem PE.nox {e : Expr} {t : TE} (h : PE X.nox e t) : PE X e t := fun pins s σ H Q I hw =>
 wpAny_mono (h pins s σ H Q (I.wish _) hw) (fun _ _ ⟨v, H', I', r, q⟩ => ⟨v, H', I'.unwish, r, q⟩) fun _ _ z => False.elim z
theorem PT.nox {e : Expr} {t : TT} (h : PT X.nox e t) : PT X e t := fun pins s σ H Q I hw =>
 wpAny_mono (h pins s σ H Q (I.wish _) hw) (fun _ _ ⟨H', I', q⟩ => ⟨H', I'.unwish, q⟩) fun _ _ z => False.elim z
theorem PSs.nox {st : List Stmt} {t : TS} (h : PSs X.nox st t) : PSs X st t := fun pins s σ H D I hw =>
 wpAny_mono (h pins s σ H D (I.wish _) hw) (fun _ _ q => q.unwish) fun _ _ z => False.elim z
end
section
variable {X : Cx} {st : Stmt} {rest : List Stmt} {t u : TS} {e : Expr} {te : TE} {pos : Pos}
def tNext : TS := fun D σ H => D.nx σ H
def tSeq (t u : TS) : TS := fun D σ H => t { D with nx := u D } σ H
theorem pss_nil : PSs X [] tNext := fun _ _ σ H _ I h => wpAny_execs_nil ⟨σ, H, I, h⟩
theorem pss_cons (h1 : PS X st t) (h2 : PSs X rest u) : PSs X (st :: rest) (tSeq t u) := by
 intro pins s σ H D I h
 refine wpAny_execs_cons (thn (h1 pins s σ H { D with nx := u D } I h) fun f s1 q => ?_)
 cases f with
 | next =>
   obtain ⟨σ', H', I', q⟩ := q
   exact h2 pins s1 σ' H' D I' q
 | ret v => exact q
 | brk => exact q
 | cont => exact q
theorem pss_one (h1 : PS X st t) : PSs X [st] t := by
 intro pins s σ H D I h
 refine wpAny_execs_cons (thn (h1 pins s σ H D I h) fun f s1 q => ?_)
 cases f with
 | next => exact wpAny_execs_nil q
 | ret v => exact q
 | brk => exact q
 | cont => exact q
theorem Inv.quiet {pins : List (Addr × Obj)} {σ : St} {H : Hp} {s : Shared} (I : Inv X pins σ H s) : interactive X.env = false := by simp [interactive, I.ok.kind]
def tDrop (te : TE) : TS := fun D σ H => te σ H fun _ H1 => D.nx σ H1
theorem ps_expr (he : PE X e te) (hs : swapsWith e none pos.line X.env = pure false := by rfl) : PS X (.Expr e pos) (tDrop te) := by
 intro pins s σ H D I h
 exact wpAny_Expr_any (thn (he pins s σ H _ I h) fun v s1 ⟨x, H1, I1, r1, q1⟩ => ⟨σ, H1, I1, q1⟩) I.quiet hs
def tRet (te : TE) : TS := fun D σ H => te σ H D.rt
theorem ps_ret (he : PE X e te) : PS X (.Return (some e) pos) (tRet te) := by
 intro pins s σ H D I h
 exact wpAny_Return_some (thn (he pins s σ H _ I h) fun v s1 ⟨x, H1, I1, r1, q1⟩ => ⟨x, σ, H1, I1, r1, q1⟩)
def tIfS (c : TT) (t u : TS) : TS := fun D σ H => c σ H fun b H1 => if b = true then t D σ H1 else u D σ H1
theorem ps_if {c : Expr} {a b : List Stmt} {tc : TT} (hc : PT X c tc) (ha : PSs X a t) (hb : PSs X b u) : PS X (.If c a b pos) (tIfS tc t u) := by
 intro pins s σ H D I h
 refine wpAny_If (thn (hc pins s σ H _ I h) fun d s1 ⟨H1, I1, q1⟩ => ?_)
 cases d with
 | true => exact ha pins s1 σ H1 D I1 q1
 | false => exact hb pins s1 σ H1 D I1 q1
def tNever : TS := fun _ _ _ => False
theorem ps_never : PS X st tNever := fun _ _ _ _ _ _ h => h.elim
end
abbrev TG := V → St → Hp → (St → Hp → Prop) → Prop
abbrev TGs := List V → St → Hp → (St → Hp → Prop) → Prop
def PG (X : Cx) (target : Expr) (t : TG) : Prop :=
 ∀ (pins : List (Addr × Obj)) (s : Shared) (σ : St) (H : Hp) (v : V) (u : Value) (Q : St → Hp → Prop), Inv X pins σ H s → RelV v u → t v σ H Q →
   wpAny (model X.prog X.w) X.A (assign target X.env u) (fun _ s' => ∃ σ' H', Inv X pins σ' H' s' ∧ Q σ' H') X.xe s
def PGs (X : Cx) (ts : List Expr) (t : TGs) : Prop :=
 ∀ (pins : List (Addr × Obj)) (s : Shared) (σ : St) (H : Hp) (vs : List V) (us : List Value) (Q : St → Hp → Prop), Inv X pins σ H s → Vals vs us → t vs σ H Q →
   wpAny (model X.prog X.w) X.A (assignInOrder ((assignEach ts X.env).map (·.2)) us) (fun _ s' => ∃ σ' H', Inv X pins σ' H' s' ∧ Q σ' H') X.xe s
section
variable {X : Cx} {pos : Pos}
def gName (i : Nat) : TG := fun v σ H Q => Q (σ.set i (some v)) H
theorem pg_name {i : Nat} {x : Str} (hN : X.N.Nodup) (hi : X.N[i]? = some x) (hx : Loc X.env.scope x) (hf : X.fn x = true ∨ X.env.scope.names.lookup x = some .local := by first | exact .inl rfl | exact .inr rfl | assumption) : PG X (.Name x pos) (gName i) := by
 intro pins s σ H v u Q I r h
 exact wpAny_assign_Name (store_ok I hN hi hx r (fun s' I' => ⟨_, H, I', h⟩) hf)
def gNil : TGs := fun vs σ H Q => vs = [] ∧ Q σ H
def gCons (t : TG) (u : TGs) : TGs := fun vs σ H Q => ∃ v r, vs = v :: r ∧ t v σ H fun σ' H' => u r σ' H' Q
theorem pgs_nil : PGs X [] gNil := by
 intro pins s σ H vs us Q I r h
 obtain ⟨e, h⟩ := h
 subst e
 cases r
 exact assignInOrder_nil ⟨σ, H, I, h⟩
theorem pgs_cons {e : Expr} {es : List Expr} {t : TG} {u : TGs} (h1 : PG X e t) (h2 : PGs X es u)
   (hs : (assignEach (e :: es) X.env).map (·.2) = assign e X.env :: (assignEach es X.env).map (·.2) := by rfl) : PGs X (e :: es) (gCons t u) := by
 intro pins s σ H vs us Q I r h
 obtain ⟨v, vr, e1, h⟩ := h
 subst e1
 cases r with
 | cons r rr =>
   rw [hs]
   refine assignInOrder_cons (thn (h1 pins s σ H _ _ _ I r h) fun _ s1 ⟨σ1, H1, I1, q1⟩ => ?_)
   exact h2 pins s1 σ1 H1 _ _ Q I1 rr q1
def gTup (K : PySem.W.Frag) (n : Nat) (t : TGs) : TG := fun v σ H Q => ∃ a xs, v = .ref a ∧ SqT K H a xs ∧ xs.length = n ∧ t xs σ H Q
theorem pg_tup {es : List Expr} {k : Nat} {t : TGs} {n : Nat} (hc : X.calm = true) (h : PGs X es t)
   (hn : (assignEach es X.env).length = n := by rfl) (hst : (assignEach es X.env).findIdx? (·.1) = none := by rfl) : PG X (.Tuple es k pos) (gTup X.K n t) := by
 intro pins s σ H v u Q I r hw
 obtain ⟨a, xs, e1, hq, hl, hw⟩ := hw
 subst e1
 cases r
 obtain ⟨its, rv, ht, hz⟩ := I.tuple hq
 refine assign_Tuple_tuple (I.ok.hd hc) ht (by simp [hn, ← hl, rv.length]) hst fun h' hx => ?_
 have I1 : Inv X pins σ H { s with heap := h' } := I.kept (t' := s.toks) fun b o e => hx b o (Nat.ne_of_lt (Heap.lt_size e)) e
 exact h pins _ σ H xs _ Q I1 (by simpa using rv) hw
def tAsg (te : TE) (g : TG) : TS := fun D σ H => te σ H fun x H1 => g x σ H1 D.nx
theorem ps_asg {tg e : Expr} {te : TE} {g : TG} (he : PE X e te) (hg : PG X tg g) (hs : swapsWithSole [tg] e pos.line X.env = pure false := by rfl) (hw : swappedStores [tg] e X.env = pure none := by rfl)
   (h1 : (assignEach [tg] X.env).map (·.2) = [assign tg X.env] := by rfl) : PS X (.Assign [tg] e pos) (tAsg te g) := by
 intro pins s σ H D I h
 refine wpAny_Assign_stores (thn (he pins s σ H _ I h) fun v s1 ⟨x, H1, I1, r1, q1⟩ => ?_) hs hw
 rw [h1]
 exact thn (hg pins s1 σ H1 x v _ I1 r1 q1) fun _ s2 q => q
theorem ps_set {i : Nat} {x : Str} {e : Expr} {te : TE} {pos' : Pos} (hN : X.N.Nodup) (hi : X.N[i]? = some x) (hx : Loc X.env.scope x) (he : PE X e te) (hs : swapsWith e (some (.Name x pos')) pos.line X.env = pure false := by rfl) (hf : X.fn x = true ∨ X.env.scope.names.lookup x = some .local := by first | exact .inl rfl | exact .inr rfl | assumption) :
   PS X (.Assign [.Name x pos'] e pos) (tAsg te (gName i)) := by
 intro pins s σ H D I h
 refine wpAny_Assign_Name (thn (he pins s σ H _ I h) fun v s1 ⟨y, H1, I1, r1, q1⟩ => ?_) hs
 exact store_ok I1 hN hi hx r1 (fun s2 I2 => ⟨_, H1, I2, q1⟩) hf
end
section
variable {X : Cx} {pos : Pos}
def tWhile (c : TT) (tb : TS) : TS := fun D σ H => ∃ W : Nat → St → Hp → Prop, (∃ m, W m σ H) ∧ ∀ m σ H, W m σ H →
 c σ H fun b H1 => if b = true then ∃ N : St → Hp → Prop, (∀ σ' H', N σ' H' → ∃ m', m' < m ∧ W m' σ' H') ∧ tb { D with nx := N, ct := N, bk := D.nx } σ H1 else D.nx σ H1
theorem ps_while {c : Expr} {body : List Stmt} {tc : TT} {tb : TS} (hp : PassesOwn (model X.prog X.w) X.A X.env X.xe) (hc : PT X c tc) (hb : PSs X body tb) : PS X (.While c body [] pos) (tWhile tc tb) := by
 intro pins s σ H D I h
 obtain ⟨W, ⟨m0, w0⟩, turn⟩ := h
 refine wpAny_While (codeAny_whileLoop (fun n s' => ∃ σ' H', Inv X pins σ' H' s' ∧ W n σ' H') ?_ m0 ⟨σ, H, I, w0⟩)
 rintro n s1 ⟨σ1, H1, I1, w1⟩
 refine wpAny_passesOwn hp (thn (hc pins s1 σ1 H1 _ I1 (turn n σ1 H1 w1)) fun b s2 ⟨H2, I2, q2⟩ => ?_)
 cases b with
 | true =>
   obtain ⟨N, hN, q2⟩ := q2
   rw [if_pos rfl]
   refine wpAny_passesOwn hp (thn (hb pins s2 σ1 H2 _ I2 q2) fun f s3 q3 => ?_)
   cases f with
   | next =>
     obtain ⟨σ3, H3, I3, n3⟩ := q3
     obtain ⟨m', hm, w3⟩ := hN σ3 H3 n3
     exact ⟨m', hm, σ3, H3, I3, w3⟩
   | cont =>
     obtain ⟨σ3, H3, I3, n3⟩ := q3
     obtain ⟨m', hm, w3⟩ := hN σ3 H3 n3
     exact ⟨m', hm, σ3, H3, I3, w3⟩
   | brk => exact q3
   | ret v => exact q3
 | false =>
   rw [if_neg Bool.false_ne_true]
   exact wpAny_execs_nil ⟨σ1, H2, I2, q2⟩
end
structure It where
 go : Nat → Hp → Prop
 yld : Nat → Hp → V → Hp → Prop
 stop : Nat → Hp → Prop
def FpOk (X : Cx) (pins : List (Addr × Obj)) (H : Hp) (b : Addr) : Prop :=
 H b = none ∧ b ≠ X.env.locals ∧ b ∉ X.fs ∧ (b ∈ X.ex ∨ X.s₀.heap.objs.size ≤ b) ∧ (∀ x c, X.env.cells.lookup x = some c → c ≠ b) ∧ ∀ p ∈ X.pn ++ pins, p.1 ≠ b
theorem Inv.fpOk {X : Cx} {pins : List (Addr × Obj)} {σ : St} {H H' : Hp} {s : Shared} {b : Addr} (I : Inv X pins σ H s) (hb : s.heap.objs.size ≤ b) (hn : H' b = none) : FpOk X pins H' b := by
 refine ⟨hn, Nat.ne_of_gt (Nat.lt_of_lt_of_le I.lt hb), I.nofs hb, .inr (Nat.le_trans I.sz hb), fun x c e z => ?_, fun p hp z => ?_⟩
 · obtain ⟨v, q⟩ := I.cell x c e
   exact absurd (Nat.lt_of_lt_of_le q.lt (by rw [z]; exact hb)) (Nat.lt_irrefl _)
 · exact absurd (Nat.lt_of_lt_of_le (Heap.lt_size (I.pin p hp).1) (by rw [z]; exact hb)) (Nat.lt_irrefl _)
structure Turn (P : Program) (w : World) (K : PySem.W.Frag) (tg : Expr) (J : It) (fp : List Addr) (it : Addr) (tn : Nat → Heap → Prop) : Prop where
 mem : it ∈ fp
 obj : ∀ i h, tn i h → ∀ b ∈ fp, ∃ o, h.get? b = some o ∧ ∀ v, o.data ≠ .cell v
 keep : ∀ i h h', tn i h → (∀ b ∈ fp, ∀ o, h.get? b = some o → h'.get? b = some o) → tn i h'
 item : ∀ (X : Cx), X.prog = P → X.w = w → X.K = K → X.calm = true → ∀ (i : Nat) (pins : List (Addr × Obj)) (s : Shared) (σ : St) (H : Hp) (E : Value → Shared → Prop), Inv X pins σ H s → (∀ b ∈ fp, FpOk X pins H b) → tn i s.heap → J.go i H →
   wpAny (model P w) X.A (pyNext (.ref it)) (fun r s1 => ∃ u, r = some u ∧
     wpAny (model P w) X.A (letOwnedTupleGo tg (.ref it) u) (fun _ s2 => ∃ x H', Inv X pins σ H' s2 ∧ RelV x u ∧ J.yld i H x H' ∧ tn (i + 1) s2.heap ∧ ∀ b ∈ fp, H' b = none) E s1) E s
 done : ∀ (X : Cx), X.prog = P → X.w = w → X.K = K → X.calm = true → ∀ (i : Nat) (pins : List (Addr × Obj)) (s : Shared) (σ : St) (H : Hp) (E : Value → Shared → Prop), Inv X pins σ H s → (∀ b ∈ fp, FpOk X pins H b) → tn i s.heap → J.stop i H →
   wpAny (model P w) X.A (pyNext (.ref it)) (fun r s1 => r = none ∧ Inv X pins σ H s1) E s
 self : ∀ (A : Around) (i : Nat) (s : Shared) (Q : Value → Shared → Prop) (E : Value → Shared → Prop), tn i s.heap → Q (.ref it) s → wpAny (model P w) A (pyIter (.ref it)) Q E s
abbrev TI := St → Hp → (It → Hp → Prop) → Prop
def PIE (X : Cx) (pins : List (Addr × Obj)) (σ : St) (tg : Expr) (R : It → Hp → Prop) (itv : Value) (s2 : Shared) : Prop :=
 ∃ (it : Addr) (fp : List Addr) (tn : Nat → Heap → Prop) (J : It) (H' : Hp), itv = .ref it ∧ Inv X pins σ H' s2 ∧ Turn X.prog X.w X.K tg J fp it tn ∧ tn 0 s2.heap ∧ (∀ b ∈ fp, FpOk X pins H' b) ∧ R J H'
def PI (X : Cx) (tg iter : Expr) (wi : TI) : Prop :=
 ∀ (pins : List (Addr × Obj)) (s : Shared) (σ : St) (H : Hp) (R : It → Hp → Prop), Inv X pins σ H s → wi σ H R →
   wpAny (model X.prog X.w) X.A (eval iter X.env) (fun v s1 => wpAny (model X.prog X.w) X.A (pyIter v) (PIE X pins σ tg R) X.xe s1) X.xe s
theorem go_of {M : Model} {A : Around} {E : Value → Shared → Prop} {s : Shared} {tg : Expr} {it : Addr} {u : Value} {o : Obj} {n : String} {vs : Array Value} {Q : Unit → Shared → Prop} (ho : s.heap.get? it = some o) (hc : o.cls = .type n) (hd : o.data = .fields vs)
   (hn : ["enumerate", "zip", "dict_itemiterator", "dict_reverseitemiterator", "odict_iterator", "itertools.zip_longest", "itertools.pairwise"].contains n = false) (hQ : Q () s) : wpAny M A (letOwnedTupleGo tg (.ref it) u) Q E s := by
 unfold letOwnedTupleGo
 cases tg <;> first
   | exact wpAny_pure hQ
   | (cases u <;> first
       | exact wpAny_pure hQ
       | (refine wpAny_bind (wpAny_load ho ?_)
          rw [hc, hd]
          show wpAny M A (if (["enumerate", "zip", "dict_itemiterator", "dict_reverseitemiterator", "odict_iterator", "itertools.zip_longest", "itertools.pairwise"].contains n && vs[0]? == some (rawInt _)) = true then _ else _) Q E s
          rw [if_neg (by intro h; rw [hn, Bool.false_and] at h; cases h)]
          exact wpAny_pure hQ))
def Itl (K : PySem.W.Frag) (a : Addr) : It :=
 ⟨fun i H => ∃ xs x, SqL K H a xs ∧ xs[i]? = some x, fun i H x H' => H' = H ∧ ∀ xs, SqL K H a xs → xs[i]? = some x, fun i H => ∃ xs, SqL K H a xs ∧ xs.length ≤ i⟩
def Itt (K : PySem.W.Frag) (a : Addr) : It :=
 ⟨fun i H => ∃ xs x, SqT K H a xs ∧ xs[i]? = some x, fun i H x H' => H' = H ∧ ∀ xs, SqT K H a xs → xs[i]? = some x, fun i H => ∃ xs, SqT K H a xs ∧ xs.length ≤ i⟩
def Itr (lo : Int) (n : Nat) : It := ⟨fun i _ => i < n, fun i H x H' => H' = H ∧ x = .int (lo + i), fun i _ => n ≤ i⟩
theorem turn_list {P : Program} {w : World} {K : PySem.W.Frag} {tg : Expr} (a it : Addr) : Turn P w K tg (Itl K a) [it] it (fun i h => h.IsListIter it a i) where
 mem := by simp
 obj := fun i h st b hb => by
   have e : b = it := by simpa using hb
   subst e
   obtain ⟨o, e, c, d⟩ := st
   exact ⟨o, e, fun v z => by rw [d] at z; cases z⟩
 keep := fun i h h' st k => st.at fun o e => k it (by simp) o e
 item := by
   intro X hP hw hK hc i pins s σ H E I hf st hg
   subst hP hw hK
   obtain ⟨xs, x, hq, hx⟩ := hg
   obtain ⟨its, rv, p, hz⟩ := I.list hq
   obtain ⟨u, hu, ru⟩ := rv.get hx
   obtain ⟨f0, f1, f2, f3, f4, f5⟩ := hf it (by simp)
   refine wpAny_pyNext_list_item st p.isList (x := u) (by simpa using hu) fun h' st' sb => ?_
   have I1 : Inv X pins σ H { s with heap := h' } := I.turned (t' := s.toks) (fun b o hb e => (sb.2 b hb).trans e) f0 f1 f3 f4 f5
   obtain ⟨o, e, c, d⟩ := id st'
   exact ⟨u, rfl, go_of (s := { s with heap := h' }) e c d (by decide) ⟨x, H, I1, ru, ⟨rfl, fun ys hy => by rw [I.list_inj hy hq]; exact hx⟩, st', fun b hb => (hf b hb).1⟩⟩
 done := by
   intro X hP hw hK hc i pins s σ H E I hf st hg
   subst hP hw hK
   obtain ⟨xs, hq, hx⟩ := hg
   obtain ⟨its, rv, p, hz⟩ := I.list hq
   obtain ⟨f0, f1, f2, f3, f4, f5⟩ := hf it (by simp)
   have hl := rv.length
   exact wpAny_pyNext_list_end (I.ok.hd hc) st p.isList (by simp; omega) fun h' eb => ⟨rfl, I.turned (t' := s.toks) (fun b o hb e => eb b o hb e) f0 f1 f3 f4 f5⟩
 self := fun _ _ _ _ _ st h => wpAny_pyIter_listiter st h
theorem turn_tuple {P : Program} {w : World} {K : PySem.W.Frag} {tg : Expr} (a it : Addr) : Turn P w K tg (Itt K a) [it] it (fun i h => h.IsTupleIter it a i) where
 mem := by simp
 obj := fun i h st b hb => by
   have e : b = it := by simpa using hb
   subst e
   obtain ⟨o, e, c, d⟩ := st
   exact ⟨o, e, fun v z => by rw [d] at z; cases z⟩
 keep := fun i h h' st k => st.at fun o e => k it (by simp) o e
 item := by
   intro X hP hw hK hc i pins s σ H E I hf st hg
   subst hP hw hK
   obtain ⟨xs, x, hq, hx⟩ := hg
   obtain ⟨its, rv, p, hz⟩ := I.tuple hq
   obtain ⟨u, hu, ru⟩ := rv.get hx
   obtain ⟨f0, f1, f2, f3, f4, f5⟩ := hf it (by simp)
   refine wpAny_pyNext_tuple_item st (show s.heap.IsTuple a its.toArray from p) (x := u) (by simpa using hu) fun h' st' sb => ?_
   have I1 : Inv X pins σ H { s with heap := h' } := I.turned (t' := s.toks) (fun b o hb e => (sb.2 b hb).trans e) f0 f1 f3 f4 f5
   obtain ⟨o, e, c, d⟩ := id st'
   exact ⟨u, rfl, go_of (s := { s with heap := h' }) e c d (by decide) ⟨x, H, I1, ru, ⟨rfl, fun ys hy => by rw [I.tuple_inj hy hq]; exact hx⟩, st', fun b hb => (hf b hb).1⟩⟩
 done := by
   intro X hP hw hK hc i pins s σ H E I hf st hg
   subst hP hw hK
   obtain ⟨xs, hq, hx⟩ := hg
   obtain ⟨its, rv, p, hz⟩ := I.tuple hq
   obtain ⟨f0, f1, f2, f3, f4, f5⟩ := hf it (by simp)
   have hl := rv.length
   exact wpAny_pyNext_tuple_end (I.ok.hd hc) st (show s.heap.IsTuple a its.toArray from p) (by simp; omega) fun h' eb => ⟨rfl, I.turned (t' := s.toks) (fun b o hb e => eb b o hb e) f0 f1 f3 f4 f5⟩
 self := fun _ _ _ _ _ st h => wpAny_pyIter_tupleiter st h
theorem turn_range {P : Program} {w : World} {K : PySem.W.Frag} {tg : Expr} (it : Addr) (lo : Int) (n : Nat) : Turn P w K tg (Itr lo n) [it] it (fun i h => IsRangeIter h it (lo + (i : Nat) * 1) ((n : Int) - (i : Nat)) 1) where
 mem := by simp
 obj := fun i h st b hb => by
   have e : b = it := by simpa using hb
   subst e
   exact ⟨_, st, fun v z => by
     have z' : Data.fields _ = Data.cell v := z
     cases z'⟩
 keep := fun i h h' st k => k it (by simp) _ st
 item := by
   intro X hP hw hK hc i pins s σ H E I hf st hg
   subst hP hw hK
   obtain ⟨f0, f1, f2, f3, f4, f5⟩ := hf it (by simp)
   have W := Walks.range (prog := X.prog) (w := X.w) (I.ok.hd hc) it lo 1 n
   refine W.item i s _ _ hg st fun v h' tk hv st' kk => ?_
   obtain ⟨t, rfl⟩ := hv
   have I1 : Inv X pins σ H { s with heap := h', toks := tk } := I.turned (fun b o hb e => kk b o (by simpa using hb) e) f0 f1 f3 f4 f5
   refine ⟨_, rfl, go_of (s := { s with heap := h', toks := tk }) (n := "range_iterator") st' rfl rfl (by decide) ⟨.int (lo + i), H, I1, ⟨t, ?_⟩, ⟨rfl, rfl⟩, st', fun b hb => (hf b hb).1⟩⟩
   rw [Int.mul_one]
 done := by
   intro X hP hw hK hc i pins s σ H E I hf st hg
   subst hP hw hK
   obtain ⟨f0, f1, f2, f3, f4, f5⟩ := hf it (by simp)
   exact wpAny_pyNext_range_end (I.ok.hd hc) st (by have : n ≤ i := hg; omega) fun h' eb => ⟨rfl, I.turned (t' := s.toks) (fun b o hb e => eb b o hb e) f0 f1 f3 f4 f5⟩
 self := fun _ _ _ _ _ st h => wpAny_pyIter_rangeiter st h
end L2

namespace L2
open PySem PySem.Spec PyProof.Rows
section
variable {X : Cx} {tg : Expr}
def iList (K : PySem.W.Frag) (tl : TE) : TI := fun σ H R => tl σ H fun x H1 => ∃ a, x = .ref a ∧ (∃ xs, SqL K H1 a xs) ∧ R (Itl K a) H1
def iTup (K : PySem.W.Frag) (tl : TE) : TI := fun σ H R => tl σ H fun x H1 => ∃ a, x = .ref a ∧ (∃ xs, SqT K H1 a xs) ∧ R (Itt K a) H1
theorem pi_list {l : Expr} {tl : TE} (hl : PE X l tl) : PI X tg l (iList X.K tl) := by
 intro pins s σ H R I h
 refine thn (hl pins s σ H _ I h) fun v s1 ⟨x, H1, I1, r1, q1⟩ => ?_
 obtain ⟨a, e, ⟨xs, hq⟩, q⟩ := q1
 subst e
 cases r1
 obtain ⟨its, rv, p, hz⟩ := I1.list hq
 refine wpAny_pyIter_list p.isList ?_
 refine ⟨s1.heap.objs.size, [s1.heap.objs.size], _, _, H1, rfl, I1.kept (t' := s1.toks) fun b o e => Heap.get?_push_of_some _ e, turn_list a _, ⟨_, Heap.get?_push_size _ rfl, rfl, rfl⟩, fun b hb => ?_, q⟩
 have e : b = s1.heap.objs.size := by simpa using hb
 subst e
 exact I1.fpOk (Nat.le_refl _) (I1.hok.fresh (Nat.le_refl _))
theorem pi_tup {l : Expr} {tl : TE} (hl : PE X l tl) : PI X tg l (iTup X.K tl) := by
 intro pins s σ H R I h
 refine thn (hl pins s σ H _ I h) fun v s1 ⟨x, H1, I1, r1, q1⟩ => ?_
 obtain ⟨a, e, ⟨xs, hq⟩, q⟩ := q1
 subst e
 cases r1
 obtain ⟨its, rv, p, hz⟩ := I1.tuple hq
 refine wpAny_pyIter_tuple (show s1.heap.IsTuple a its.toArray from p) ?_
 refine ⟨s1.heap.objs.size, [s1.heap.objs.size], _, _, H1, rfl, I1.kept (t' := s1.toks) fun b o e => Heap.get?_push_of_some _ e, turn_tuple a _, ⟨_, Heap.get?_push_size _ rfl, rfl, rfl⟩, fun b hb => ?_, q⟩
 have e : b = s1.heap.objs.size := by simpa using hb
 subst e
 exact I1.fpOk (Nat.le_refl _) (I1.hok.fresh (Nat.le_refl _))
theorem range_it {pins : List (Addr × Obj)} {σ : St} {H : Hp} {s : Shared} {R : It → Hp → Prop} {E : Value → Shared → Prop} {lo hi : Int} {t u v : Tok} {tk : Nat} (I : Inv X pins σ H s) (h1 : -(2 ^ 62) ≤ lo) (h2 : lo < 2 ^ 62) (h3 : -(2 ^ 62) ≤ hi) (h4 : hi < 2 ^ 62)
   (q : R (Itr lo (hi - lo).toNat) H) : wpAny (model X.prog X.w) X.A (pyIter (.ref s.heap.objs.size)) (PIE X pins σ tg R) E { s with heap := s.heap.push { cls := .type "range", data := .fields #[.int lo t, .int hi u, .int 1 v] }, toks := tk } := by
 refine wpAny_pyIter_range (IsRange.new ..) (small_one h1 h2 h3 h4) ?_
 have I1 : Inv X pins σ H { s with heap := s.heap.push { cls := .type "range", data := .fields #[.int lo t, .int hi u, .int 1 v] }, toks := tk } := I.kept fun b o e => Heap.get?_push_of_some _ e
 refine ⟨(s.heap.push { cls := .type "range", data := .fields #[.int lo t, .int hi u, .int 1 v] }).objs.size, [(s.heap.push { cls := .type "range", data := .fields #[.int lo t, .int hi u, .int 1 v] }).objs.size], _, _, H, rfl,
   I1.kept (t' := tk) fun b o e => Heap.get?_push_of_some _ e, turn_range _ lo (hi - lo).toNat, ?_, fun b hb => ?_, q⟩
 · have e1 : lo + ((0 : Nat) : Int) * 1 = lo := by simp
   have e2 : (((hi - lo).toNat : Nat) : Int) - ((0 : Nat) : Int) = Builtin.Range.rangeSize lo hi 1 := by rw [rangeSize_one]; split <;> omega
   show IsRangeIter _ _ (lo + ((0 : Nat) : Int) * 1) ((((hi - lo).toNat : Nat) : Int) - ((0 : Nat) : Int)) 1
   rw [e1, e2]
   exact Heap.get?_push_size _ rfl
 · have e : b = (s.heap.push { cls := .type "range", data := .fields #[.int lo t, .int hi u, .int 1 v] }).objs.size := by simpa using hb
   subst e
   exact I1.fpOk (Nat.le_refl _) (I1.hok.fresh (Nat.le_refl _))
def iRng1 (ta : TA) : TI := fun σ H R => ta σ H fun vs H1 => ∃ j : Int, vs = [.int j] ∧ -(2 ^ 62) ≤ j ∧ j < 2 ^ 62 ∧ R (Itr 0 j.toNat) H1
theorem pi_range1 {a : Expr} {ta : TA} {p pos : Pos} (hg : Gl X "range") (hm : X.mg "range" = none) (ha : PA X [a] ta) (hs : starEach [a] X.env = [(false, eval a X.env)] := by rfl) : PI X tg (.Call (.Name "range" p) [a] [] pos) (iRng1 ta) := by
 intro pins s σ H R I h
 refine Call_ (ld_blt I hg hm boot_range (PyProof.Rows.callWith_type1 (thn (ha pos pins s σ H _ I h) fun us s1 ⟨vs, H1, I1, r1, q1⟩ => ?_) hs rfl))
 obtain ⟨j, e, q1, q2, q⟩ := q1
 subst e
 cases r1 with
 | cons r rr =>
   cases rr
   obtain ⟨t, rfl⟩ := r
   exact call_range_1 (range_it I1 (by omega) (by omega) q1 q2 (by simpa using q))
def tFor (wi : TI) (g : TG) (tb : TS) : TS := fun D σ H => wi σ H fun J H1 => ∃ W : Nat → Nat → St → Hp → Prop, (∃ m, W 0 m σ H1) ∧ ∀ i m σ H, W i m σ H →
 (J.stop i H ∧ D.nx σ H) ∨ (J.go i H ∧ ∃ N : St → Hp → Prop, (∀ σ' H', N σ' H' → ∃ m', m' < m ∧ W (i + 1) m' σ' H') ∧ ∀ x H', J.yld i H x H' → g x σ H' fun σ2 H2 => tb { D with nx := N, ct := N, bk := D.nx } σ2 H2)
def pinsAt (fp : List Addr) (h : Heap) : List (Addr × Obj) := fp.filterMap fun b => (h.get? b).map fun o => (b, o)
theorem mem_pinsAt {fp : List Addr} {h : Heap} {b : Addr} {o : Obj} (hb : b ∈ fp) (e : h.get? b = some o) : (b, o) ∈ pinsAt fp h := List.mem_filterMap.mpr ⟨b, hb, by rw [e]; rfl⟩
theorem of_pinsAt {fp : List Addr} {h : Heap} {p : Addr × Obj} (hp : p ∈ pinsAt fp h) : p.1 ∈ fp ∧ h.get? p.1 = some p.2 := by
 obtain ⟨b, hb, e⟩ := List.mem_filterMap.mp hp
 cases q : h.get? b with
 | none => rw [q] at e; cases e
 | some o =>
   rw [q] at e
   have e' : (b, o) = p := Option.some.inj e
   subst e'
   exact ⟨hb, q⟩
theorem Inv.pinned {pins : List (Addr × Obj)} {σ : St} {H : Hp} {s : Shared} {fp : List Addr} (I : Inv X pins σ H s) (hf : ∀ b ∈ fp, FpOk X pins H b) (ho : ∀ b ∈ fp, ∃ o, s.heap.get? b = some o ∧ ∀ v, o.data ≠ .cell v) : Inv X (pins ++ pinsAt fp s.heap) σ H s :=
 I.pins_of fun p hp => (List.mem_append.mp hp).elim (fun z => I.pin p (List.mem_append_right _ z)) fun z => by
   obtain ⟨hb, e⟩ := of_pinsAt z
   obtain ⟨f0, f1, f2, _⟩ := hf p.1 hb
   obtain ⟨o, e', d⟩ := ho p.1 hb
   rw [e] at e'; cases e'
   exact ⟨e, f0, f1, f2, d⟩
theorem Inv.unpinned {pins pl : List (Addr × Obj)} {σ : St} {H : Hp} {s : Shared} (I : Inv X (pins ++ pl) σ H s) : Inv X pins σ H s := I.pins_of fun p hp => I.pin p (List.mem_append_right _ (List.mem_append_left _ hp))
theorem ps_for {iter : Expr} {body : List Stmt} {wi : TI} {g : TG} {tb : TS} {pos : Pos} (hp : PassesOwn (model X.prog X.w) X.A X.env X.xe) (hc : X.calm = true) (hi : PI X tg iter wi) (hg : PG X tg g) (hb : PSs X body tb)
   (hs : ∀ x, foldedSetIterable iter X.env x = pure x := by intro _; rfl) : PS X (.For tg iter body [] pos) (tFor wi g tb) := by
 intro pins s σ H D I h
 refine wpAny_For (thn (hi pins s σ H _ I h) fun v s1 h1 => thn h1 fun itv s2 h2 => ?_) hs
 obtain ⟨it, fp, tn, J, H2, e, I2, T, st2, f2, W, ⟨m0, w0⟩, turn⟩ := h2
 subst e
 -- what stays true of the iterator's objects through the loop
 have stat : ∀ {H' : Hp}, (∀ b ∈ fp, H' b = none) → ∀ b ∈ fp, FpOk X pins H' b := fun hn b hb => ⟨hn b hb, (f2 b hb).2⟩
 refine codeAny_forLoop_any (fun n s' => ∃ i σ' H', Inv X pins σ' H' s' ∧ tn i s'.heap ∧ (∀ b ∈ fp, H' b = none) ∧ W i n σ' H') ?_ m0 ⟨0, σ, H2, I2, st2, fun b hb => (f2 b hb).1, w0⟩
 rintro n s3 ⟨i, σ3, H3, I3, st3, fr3, w3⟩
 rcases turn i n σ3 H3 w3 with ⟨stop, qn⟩ | ⟨go, N, hN, step⟩
 · refine wpAny_passesOwn hp (thn (T.done X rfl rfl rfl hc i pins s3 σ3 H3 X.xe I3 (stat fr3) st3 stop) fun r s4 ⟨hr, I4⟩ => ?_)
   subst hr
   exact wpAny_execs_nil ⟨σ3, H3, I4, qn⟩
 · refine wpAny_passesOwn hp (thn (T.item X rfl rfl rfl hc i pins s3 σ3 H3 X.xe I3 (stat fr3) st3 go) fun r s4 ⟨u, hr, h4⟩ => ?_)
   subst hr
   refine wpAny_passesOwn hp (thn h4 fun _ s5 ⟨x, H5, I5, r5, y5, st5, fr5⟩ => ?_)
   have I5' := I5.pinned (stat fr5) (T.obj _ _ st5)
   refine wpAny_passesOwn hp (thn (hg _ s5 σ3 H5 x u _ I5' r5 (step x H5 y5)) fun _ s6 ⟨σ6, H6, I6, q6⟩ => ?_)
   refine wpAny_passesOwn hp (thn (hb _ s6 σ6 H6 _ I6 q6) fun f s7 q7 => ?_)
   have again : ∀ {σ7 : St} {H7 : Hp}, Inv X (pins ++ pinsAt fp s5.heap) σ7 H7 s7 → N σ7 H7 → ∃ m, m < n ∧ ∃ i σ' H', Inv X pins σ' H' s7 ∧ tn i s7.heap ∧ (∀ b ∈ fp, H' b = none) ∧ W i m σ' H' := fun {σ7 H7} I7 n7 => by
     obtain ⟨m', hm, w7⟩ := hN σ7 H7 n7
     refine ⟨m', hm, i + 1, σ7, H7, I7.unpinned, T.keep _ _ _ st5 fun b hb o e => (I7.pin (b, o) (List.mem_append_right _ (List.mem_append_right _ (mem_pinsAt hb e)))).1, fun b hb => ?_, w7⟩
     obtain ⟨o, e, d⟩ := T.obj _ _ st5 b hb
     exact (I7.pin (b, o) (List.mem_append_right _ (List.mem_append_right _ (mem_pinsAt hb e)))).2.1
   cases f with
   | next => obtain ⟨σ7, H7, I7, n7⟩ := q7; exact again I7 n7
   | cont => obtain ⟨σ7, H7, I7, n7⟩ := q7; exact again I7 n7
   | brk => obtain ⟨σ7, H7, I7, q7⟩ := q7; exact ⟨σ7, H7, I7.unpinned, q7⟩
   | ret v => obtain ⟨x7, σ7, H7, I7, r7, q7⟩ := q7; exact ⟨x7, σ7, H7, I7.unpinned, r7, q7⟩
end
theorem for_list {K : PySem.W.Frag} {a : Addr} {xs : List V} {g : TG} {tb : TS} {D : Ends} {σ : St} {H : Hp} (Pv : Nat → St → Hp → Prop) (h0 : Pv 0 σ H) (hl : ∀ i σ H, i ≤ xs.length → Pv i σ H → SqL K H a xs)
   (hs : ∀ i x σ H, xs[i]? = some x → Pv i σ H → g x σ H fun σ2 H2 => tb { D with nx := Pv (i + 1), ct := Pv (i + 1), bk := D.nx } σ2 H2) (hd : ∀ σ H, Pv xs.length σ H → D.nx σ H) :
   ∃ W : Nat → Nat → St → Hp → Prop, (∃ m, W 0 m σ H) ∧ ∀ i m σ H, W i m σ H →
     ((Itl K a).stop i H ∧ D.nx σ H) ∨ ((Itl K a).go i H ∧ ∃ N : St → Hp → Prop, (∀ σ' H', N σ' H' → ∃ m', m' < m ∧ W (i + 1) m' σ' H') ∧ ∀ x H', (Itl K a).yld i H x H' → g x σ H' fun σ2 H2 => tb { D with nx := N, ct := N, bk := D.nx } σ2 H2) := by
 refine ⟨fun i m σ H => m = xs.length - i ∧ i ≤ xs.length ∧ Pv i σ H, ⟨xs.length, by simp, Nat.zero_le _, h0⟩, ?_⟩
 rintro i m σ H ⟨rfl, hi, p⟩
 have q := hl i σ H hi p
 by_cases hlt : i < xs.length
 · refine .inr ⟨⟨xs, xs[i], q, by simp [hlt]⟩, Pv (i + 1), fun σ' H' p' => ⟨xs.length - (i + 1), by omega, rfl, hlt, p'⟩, fun x H' y => ?_⟩
   obtain ⟨e, y⟩ := y
   subst e
   exact hs i x σ _ (y xs q) p
 · have e : i = xs.length := by omega
   subst e
   exact .inl ⟨⟨xs, q, Nat.le_refl _⟩, hd σ H p⟩
theorem for_tup {K : PySem.W.Frag} {a : Addr} {xs : List V} {g : TG} {tb : TS} {D : Ends} {σ : St} {H : Hp} (Pv : Nat → St → Hp → Prop) (h0 : Pv 0 σ H) (hl : ∀ i σ H, i ≤ xs.length → Pv i σ H → SqT K H a xs)
   (hs : ∀ i x σ H, xs[i]? = some x → Pv i σ H → g x σ H fun σ2 H2 => tb { D with nx := Pv (i + 1), ct := Pv (i + 1), bk := D.nx } σ2 H2) (hd : ∀ σ H, Pv xs.length σ H → D.nx σ H) :
   ∃ W : Nat → Nat → St → Hp → Prop, (∃ m, W 0 m σ H) ∧ ∀ i m σ H, W i m σ H →
     ((Itt K a).stop i H ∧ D.nx σ H) ∨ ((Itt K a).go i H ∧ ∃ N : St → Hp → Prop, (∀ σ' H', N σ' H' → ∃ m', m' < m ∧ W (i + 1) m' σ' H') ∧ ∀ x H', (Itt K a).yld i H x H' → g x σ H' fun σ2 H2 => tb { D with nx := N, ct := N, bk := D.nx } σ2 H2) := by
 refine ⟨fun i m σ H => m = xs.length - i ∧ i ≤ xs.length ∧ Pv i σ H, ⟨xs.length, by simp, Nat.zero_le _, h0⟩, ?_⟩
 rintro i m σ H ⟨rfl, hi, p⟩
 have q := hl i σ H hi p
 by_cases hlt : i < xs.length
 · refine .inr ⟨⟨xs, xs[i], q, by simp [hlt]⟩, Pv (i + 1), fun σ' H' p' => ⟨xs.length - (i + 1), by omega, rfl, hlt, p'⟩, fun x H' y => ?_⟩
   obtain ⟨e, y⟩ := y
   subst e
   exact hs i x σ _ (y xs q) p
 · have e : i = xs.length := by omega
   subst e
   exact .inl ⟨⟨xs, q, Nat.le_refl _⟩, hd σ H p⟩
theorem for_range {lo : Int} {n : Nat} {g : TG} {tb : TS} {D : Ends} {σ : St} {H : Hp} (Pv : Nat → St → Hp → Prop) (h0 : Pv 0 σ H)
   (hs : ∀ i σ H, i < n → Pv i σ H → g (.int (lo + i)) σ H fun σ2 H2 => tb { D with nx := Pv (i + 1), ct := Pv (i + 1), bk := D.nx } σ2 H2) (hd : ∀ σ H, Pv n σ H → D.nx σ H) :
   ∃ W : Nat → Nat → St → Hp → Prop, (∃ m, W 0 m σ H) ∧ ∀ i m σ H, W i m σ H →
     ((Itr lo n).stop i H ∧ D.nx σ H) ∨ ((Itr lo n).go i H ∧ ∃ N : St → Hp → Prop, (∀ σ' H', N σ' H' → ∃ m', m' < m ∧ W (i + 1) m' σ' H') ∧ ∀ x H', (Itr lo n).yld i H x H' → g x σ H' fun σ2 H2 => tb { D with nx := N, ct := N, bk := D.nx } σ2 H2) := by
 refine ⟨fun i m σ H => m = n - i ∧ i ≤ n ∧ Pv i σ H, ⟨n, by simp, Nat.zero_le _, h0⟩, ?_⟩
 rintro i m σ H ⟨rfl, hi, p⟩
 by_cases hlt : i < n
 · refine .inr ⟨hlt, Pv (i + 1), fun σ' H' p' => ⟨n - (i + 1), by omega, rfl, hlt, p'⟩, fun x H' y => ?_⟩
   obtain ⟨e, y⟩ := y
   subst e y
   exact hs i σ _ hlt p
 · have e : i = n := by omega
   subst e
   exact .inl ⟨Nat.le_refl _, hd σ H p⟩
end L2

namespace L2
open PySem PySem.Spec PyProof.Rows

abbrev R2 := V → V → Hp → VK → Prop
def OpR (X : Cx) (f : Value → Value → Sem Value) (r : R2) : Prop :=
 ∀ (pins : List (Addr × Obj)) (s : Shared) (σ : St) (H : Hp) (x y : V) (v u : Value) (Q : VK), Inv X pins σ H s → RelV x v → RelV y u → r x y H Q →
   wpAny (model X.prog X.w) X.A (f v u) (EP X pins σ Q) X.xe s
def UnR (X : Cx) (f : Value → Sem Value) (r : V → Hp → VK → Prop) : Prop :=
 ∀ (pins : List (Addr × Obj)) (s : Shared) (σ : St) (H : Hp) (x : V) (v : Value) (Q : VK), Inv X pins σ H s → RelV x v → r x H Q →
   wpAny (model X.prog X.w) X.A (f v) (EP X pins σ Q) X.xe s
def CallR (X : Cx) (f : Value) (r : List V → Hp → VK → Prop) : Prop :=
 ∀ (pins : List (Addr × Obj)) (s : Shared) (σ : St) (H : Hp) (xs : List V) (us : List Value) (Q : VK), Inv X pins σ H s → Vals xs us → r xs H Q →
   wpAny (model X.prog X.w) X.A (call f us) (EP X pins σ Q) X.xe s
def tOp (r : R2) (ta tb : TE) : TE := fun σ H Q => ta σ H fun x H1 => tb σ H1 fun y H2 => r x y H2 Q
def tUn (r : V → Hp → VK → Prop) (ta : TE) : TE := fun σ H Q => ta σ H fun x H1 => r x H1 Q
def rI (C : Int → Int → Prop) (g : Int → Int → V) : R2 := fun x y H Q => ∃ i j, x = .int i ∧ y = .int j ∧ C i j ∧ Q (g i j) H
def rI0 (g : Int → Int → V) : R2 := fun x y H Q => ∃ i j, x = .int i ∧ y = .int j ∧ Q (g i j) H
def rU (g : Int → V) : V → Hp → VK → Prop := fun x H Q => ∃ i, x = .int i ∧ Q (g i) H

section
variable {X : Cx} {a b c : Expr} {ta tb tc : TE} {pos : Pos}

theorem binT (ha : PE X a ta) (hb : PE X b tb) {pins : List (Addr × Obj)} {s : Shared} {σ : St} {H : Hp} {R : V → V → Hp → Prop} (I : Inv X pins σ H s)
   (h : ta σ H fun x H1 => tb σ H1 fun y H2 => R x y H2) {Q : Value → Shared → Prop} {f : Value → Value → Sem Value}
   (hf : ∀ v u s2 x y H2, Inv X pins σ H2 s2 → RelV x v → RelV y u → R x y H2 → wpAny (model X.prog X.w) X.A (f v u) Q X.xe s2) :
   wpAny (model X.prog X.w) X.A (eval a X.env) (fun v s₁ => wpAny (model X.prog X.w) X.A (eval b X.env) (fun u s₂ => wpAny (model X.prog X.w) X.A (f v u) Q X.xe s₂) X.xe s₁) X.xe s := by
 refine thn (ha pins s σ H _ I h) fun v s1 ⟨x, H1, I1, r1, q1⟩ => ?_
 refine thn (hb pins s1 σ H1 _ I1 q1) fun u s2 ⟨y, H2, I2, r2, q2⟩ => ?_
 exact hf v u s2 x y H2 I2 r1 r2 q2

theorem pe_op {op : Operator} {r : R2} (ho : OpR X (binaryOp op) r) (ha : PE X a ta) (hb : PE X b tb) : PE X (.BinOp a op b pos) (tOp r ta tb) := by
 intro pins s σ H Q I h
 exact wpAny_BinOp (binT ha hb I h fun v u s2 x y H2 I2 rx ry q => ho pins s2 σ H2 x y v u Q I2 rx ry q)
theorem pe_un {op : UnaryOp} {r : V → Hp → VK → Prop} (ho : UnR X (unaryOp op) r) (ha : PE X a ta) : PE X (.UnaryOp op a pos) (tUn r ta) := by
 intro pins s σ H Q I h
 exact UnaryOp_ (thn (ha pins s σ H _ I h) fun v s1 ⟨x, H1, I1, r1, q1⟩ => ho pins s1 σ H1 x v Q I1 r1 q1)
theorem opI {f : Value → Value → Sem Value} {C : Int → Int → Prop} {g : Int → Int → Int}
   (rule : ∀ (i j : Int) (t u : Tok) (s : Shared) (Q : Value → Shared → Prop) (E : Value → Shared → Prop), C i j → Q (.int (g i j) s.toks) { s with toks := s.toks + 1 } → wpAny (model X.prog X.w) X.A (f (.int i t) (.int j u)) Q E s) :
   OpR X f (rI C fun i j => .int (g i j)) := by
 intro pins s σ H x y v u Q I rx ry h
 obtain ⟨i, j, rfl, rfl, hc, q⟩ := h
 obtain ⟨t, rfl⟩ := rx
 obtain ⟨t', rfl⟩ := ry
 exact rule i j t t' s _ _ hc ⟨.int (g i j), H, I.tok _, ⟨_, rfl⟩, q⟩
theorem opI0 {f : Value → Value → Sem Value} {g : Int → Int → Int}
   (rule : ∀ (i j : Int) (t u : Tok) (s : Shared) (Q : Value → Shared → Prop) (E : Value → Shared → Prop), Q (.int (g i j) s.toks) { s with toks := s.toks + 1 } → wpAny (model X.prog X.w) X.A (f (.int i t) (.int j u)) Q E s) :
   OpR X f (rI0 fun i j => .int (g i j)) := by
 intro pins s σ H x y v u Q I rx ry h
 obtain ⟨i, j, rfl, rfl, q⟩ := h
 obtain ⟨t, rfl⟩ := rx
 obtain ⟨t', rfl⟩ := ry
 exact rule i j t t' s _ _ ⟨.int (g i j), H, I.tok _, ⟨_, rfl⟩, q⟩
theorem opB0 {f : Value → Value → Sem Value} {g : Int → Int → Bool}
   (rule : ∀ (i j : Int) (t u : Tok) (s : Shared) (Q : Value → Shared → Prop) (E : Value → Shared → Prop), Q (.bool (g i j)) s → wpAny (model X.prog X.w) X.A (f (.int i t) (.int j u)) Q E s) :
   OpR X f (rI0 fun i j => .bl (g i j)) := by
 intro pins s σ H x y v u Q I rx ry h
 obtain ⟨i, j, rfl, rfl, q⟩ := h
 obtain ⟨t, rfl⟩ := rx
 obtain ⟨t', rfl⟩ := ry
 exact rule i j t t' s _ _ ⟨.bl (g i j), H, I, rfl, q⟩

def CDiv (i j : Int) : Prop := 0 < j ∧ j < 1073741824
def CPow (i j : Int) : Prop := 0 ≤ j ∧ j ≤ 1000000 ∧ i.natAbs < 2 ^ 64
def CMul (i j : Int) : Prop := (-(2 ^ 64) < i ∧ i < 2 ^ 64) ∨ (-(2 ^ 64) < j ∧ j < 2 ^ 64)
theorem CMul.ok {i j : Int} (h : CMul i j) : IntMulOk i j := by
 rcases h with ⟨h1, h2⟩ | ⟨h1, h2⟩
 · exact .of_left (intBits_le_64 h1 h2)
 · exact .of_right (intBits_le_64 h1 h2)
theorem op_add : OpR X (binaryOp .Add) (rI0 fun i j => .int (i + j)) := opI0 fun _ _ _ _ _ _ _ q => add_int q
theorem op_sub : OpR X (binaryOp .Sub) (rI0 fun i j => .int (i - j)) := opI0 fun _ _ _ _ _ _ _ q => sub_int q
theorem op_mul : OpR X (binaryOp .Mult) (rI CMul fun i j => .int (i * j)) := opI fun _ _ _ _ _ _ _ hc q => mul_int q hc.ok
theorem op_fdiv : OpR X (binaryOp .FloorDiv) (rI CDiv fun i j => .int (i / j)) := opI fun i j _ _ _ _ _ hc q => by
 have h1 : (0 : Int) < j := hc.1
 have h2 : j < 1073741824 := hc.2
 exact floordiv_int (by omega) (by rw [Int.fdiv_eq_ediv_of_nonneg i (by omega)]; exact q) (.inl (PyProof.noPylong_small (by omega)))
theorem op_mod : OpR X (binaryOp .Mod) (rI (fun _ j => 0 < j) fun i j => .int (i % j)) := opI fun i j _ _ _ _ _ hc q => by
 have h1 : (0 : Int) < j := hc
 exact mod_int' (by omega) (by rw [Int.fmod_eq_emod_of_nonneg i (by omega)]; exact q)
theorem op_pow : OpR X (binaryOp .Pow) (rI CPow fun i j => .int (i ^ j.toNat)) := opI fun _ _ _ _ _ _ _ hc q => pow_int_small hc.1 hc.2.1 hc.2.2 q
theorem unI {f : Value → Sem Value} {g : Int → Int}
   (rule : ∀ (i : Int) (t : Tok) (s : Shared) (Q : Value → Shared → Prop) (E : Value → Shared → Prop), Q (.int (g i) s.toks) { s with toks := s.toks + 1 } → wpAny (model X.prog X.w) X.A (f (.int i t)) Q E s) :
   UnR X f (rU fun i => .int (g i)) := by
 intro pins s σ H x v Q I rx h
 obtain ⟨i, rfl, q⟩ := h
 obtain ⟨t, rfl⟩ := rx
 exact rule i t s _ _ ⟨.int (g i), H, I.tok _, ⟨_, rfl⟩, q⟩
theorem un_neg : UnR X (unaryOp .USub) (rU fun i => .int (-i)) := unI fun _ _ _ _ _ q => neg_int q
end
def scal : V → V → Bool
 | .non, .non => true | .non, .int _ => true | .int _, .non => true | .non, .bl _ => true | .bl _, .non => true | .non, .str _ => true | .str _, .non => true
 | .int _, .int _ => true | .bl _, .bl _ => true | .str _, .str _ => true | .byt _, .byt _ => true
 | .int _, .str _ => true | .str _, .int _ => true | .bl _, .str _ => true | .str _, .bl _ => true
 | _, _ => false
def rEq : R2 := fun x y H Q => scal x y = true ∧ Q (.bl (decide (x = y))) H
def rNe : R2 := fun x y H Q => scal x y = true ∧ Q (.bl (!decide (x = y))) H

theorem dec_int {i j : Int} : decide (V.int i = V.int j) = (i == j) := by
 rw [Bool.eq_iff_iff]
 simp
theorem dec_bl {i j : Bool} : decide (V.bl i = V.bl j) = (i == j) := by
 rw [Bool.eq_iff_iff]
 simp
theorem dec_str {i j : Str} : decide (V.str i = V.str j) = (i == j) := by
 rw [Bool.eq_iff_iff]
 simp
theorem dec_byt {i j : Array UInt8} : decide (V.byt i = V.byt j) = (i.toList == j.toList) := by
 rw [Bool.eq_iff_iff]
 cases i
 cases j
 simp

section
variable {X : Cx} {a b c : Expr} {ta tb tc : TE} {pos : Pos}
theorem fin_bl {pins : List (Addr × Obj)} {σ : St} {H : Hp} {s : Shared} {Q : VK} {k k' : Bool} (I : Inv X pins σ H s) (q : Q (.bl k) H) (e : k = k') : EP X pins σ Q (.bool k') s := by
 subst e
 exact ⟨.bl k, H, I, rfl, q⟩
theorem op_eq : OpR X (compareOp .Eq) rEq := by
 intro pins s σ H x y v u Q I rx ry h
 obtain ⟨hs, q⟩ := h
 cases x with
 | non =>
   cases rx
   cases y with
   | non => cases ry; exact PySem.EqNone.eq_none_none (fin_bl I q (by simp))
   | bl j => cases ry; exact PySem.EqNone.eq_none_bool (fin_bl I q (by simp))
   | int j => obtain ⟨t', rfl⟩ := ry; exact PySem.EqNone.eq_none_int (fin_bl I q (by simp))
   | str j => obtain ⟨t', rfl⟩ := ry; exact PySem.EqNone.eq_none_str (fin_bl I q (by simp))
   | _ => exact absurd (show false = true from hs) Bool.false_ne_true
 | bl i =>
   cases rx
   cases y with
   | non => cases ry; exact PySem.EqNone.eq_bool_none (fin_bl I q (by simp))
   | bl j => cases ry; exact eq_bool (fin_bl I q dec_bl)
   | str j => obtain ⟨t', rfl⟩ := ry; exact PySem.EqMixed.eq_bool_str (fin_bl I q (by simp))
   | _ => exact absurd (show false = true from hs) Bool.false_ne_true
 | int i =>
   obtain ⟨t, rfl⟩ := rx
   cases y with
   | non => cases ry; exact PySem.EqNone.eq_int_none (fin_bl I q (by simp))
   | int j => obtain ⟨t', rfl⟩ := ry; exact eq_int (fin_bl I q dec_int)
   | str j => obtain ⟨t', rfl⟩ := ry; exact PySem.EqMixed.eq_int_str (fin_bl I q (by simp))
   | _ => exact absurd (show false = true from hs) Bool.false_ne_true
 | str i =>
   obtain ⟨t, rfl⟩ := rx
   cases y with
   | non => cases ry; exact PySem.EqNone.eq_str_none (fin_bl I q (by simp))
   | bl j => cases ry; exact PySem.EqMixed.eq_str_bool (fin_bl I q (by simp))
   | int j => obtain ⟨t', rfl⟩ := ry; exact PySem.EqMixed.eq_str_int (fin_bl I q (by simp))
   | str j => obtain ⟨t', rfl⟩ := ry; exact eq_str (fin_bl I q dec_str)
   | _ => exact absurd (show false = true from hs) Bool.false_ne_true
 | byt i =>
   obtain ⟨t, rfl⟩ := rx
   cases y with
   | byt j => obtain ⟨t', rfl⟩ := ry; exact PySem.W.eq_bytes (fin_bl I q dec_byt)
   | _ => exact absurd (show false = true from hs) Bool.false_ne_true
 | _ => cases y <;> exact absurd (show false = true from hs) Bool.false_ne_true
theorem op_ne : OpR X (compareOp .NotEq) rNe := by
 intro pins s σ H x y v u Q I rx ry h
 obtain ⟨hs, q⟩ := h
 cases x with
 | non =>
   cases rx
   cases y with
   | non => cases ry; exact PySem.EqNone.ne_none_none (fin_bl I q (by simp))
   | bl j => cases ry; exact PySem.EqNone.ne_none_bool (fin_bl I q (by simp))
   | int j => obtain ⟨t', rfl⟩ := ry; exact PySem.EqNone.ne_none_int (fin_bl I q (by simp))
   | str j => obtain ⟨t', rfl⟩ := ry; exact PySem.EqNone.ne_none_str (fin_bl I q (by simp))
   | _ => exact absurd (show false = true from hs) Bool.false_ne_true
 | bl i =>
   cases rx
   cases y with
   | non => cases ry; exact PySem.EqNone.ne_bool_none (fin_bl I q (by simp))
   | bl j => cases ry; exact ne_bool (fin_bl I q (congrArg not dec_bl))
   | str j => obtain ⟨t', rfl⟩ := ry; exact PySem.EqMixed.ne_bool_str (fin_bl I q (by simp))
   | _ => exact absurd (show false = true from hs) Bool.false_ne_true
 | int i =>
   obtain ⟨t, rfl⟩ := rx
   cases y with
   | non => cases ry; exact PySem.EqNone.ne_int_none (fin_bl I q (by simp))
   | int j => obtain ⟨t', rfl⟩ := ry; exact ne_int (fin_bl I q (congrArg not dec_int))
   | str j => obtain ⟨t', rfl⟩ := ry; exact PySem.EqMixed.ne_int_str (fin_bl I q (by simp))
   | _ => exact absurd (show false = true from hs) Bool.false_ne_true
 | str i =>
   obtain ⟨t, rfl⟩ := rx
   cases y with
   | non => cases ry; exact PySem.EqNone.ne_str_none (fin_bl I q (by simp))
   | bl j => cases ry; exact PySem.EqMixed.ne_str_bool (fin_bl I q (by simp))
   | int j => obtain ⟨t', rfl⟩ := ry; exact PySem.EqMixed.ne_str_int (fin_bl I q (by simp))
   | str j => obtain ⟨t', rfl⟩ := ry; exact ne_str (fin_bl I q (congrArg not dec_str))
   | _ => exact absurd (show false = true from hs) Bool.false_ne_true
 | byt i =>
   obtain ⟨t, rfl⟩ := rx
   cases y with
   | byt j => obtain ⟨t', rfl⟩ := ry; exact PySem.W.ne_bytes (fin_bl I q (congrArg not dec_byt))
   | _ => exact absurd (show false = true from hs) Bool.false_ne_true
 | _ => cases y <;> exact absurd (show false = true from hs) Bool.false_ne_true

theorem op_lt : OpR X (compareOp .Lt) (rI0 fun i j => .bl (decide (i < j))) := opB0 fun _ _ _ _ _ _ _ q => lt_int q
theorem op_le : OpR X (compareOp .LtE) (rI0 fun i j => .bl (decide (i ≤ j))) := opB0 fun _ _ _ _ _ _ _ q => le_int q
theorem op_gt : OpR X (compareOp .Gt) (rI0 fun i j => .bl (decide (j < i))) := opB0 fun _ _ _ _ _ _ _ q => gt_int q
theorem op_ge : OpR X (compareOp .GtE) (rI0 fun i j => .bl (decide (j ≤ i))) := opB0 fun _ _ _ _ _ _ _ q => ge_int q
theorem op_in_str : OpR X (compareOp .In) (fun x y H Q => ∃ i j, x = .str i ∧ y = .str j ∧ Q (.bl (!(Builtin.Str.occurrences j i 0 j.length 1).isEmpty)) H) := by
 intro pins s σ H x y v u Q I rx ry h
 obtain ⟨i, j, rfl, rfl, q⟩ := h
 obtain ⟨t, rfl⟩ := rx
 obtain ⟨t', rfl⟩ := ry
 exact in_str (fin_bl I q rfl)
theorem op_isN : OpR X (compareOp .Is) (fun x y H Q => y = .non ∧ Q (.bl (decide (x = .non))) H) := by
 intro pins s σ H x y v u Q I rx ry h
 obtain ⟨rfl, q⟩ := h
 cases ry
 refine is_none_gen (fin_bl I q ?_)
 cases x <;> first
   | (cases rx; rfl)
   | (obtain ⟨t, rfl⟩ := rx; rfl)
theorem op_notN : OpR X (compareOp .IsNot) (fun x y H Q => y = .non ∧ Q (.bl (!decide (x = .non))) H) := by
 intro pins s σ H x y v u Q I rx ry h
 obtain ⟨rfl, q⟩ := h
 cases ry
 refine isnot_none_gen (fin_bl I q ?_)
 cases x <;> first
   | (cases rx; rfl)
   | (obtain ⟨t, rfl⟩ := rx; rfl)

theorem OpR.or {f : Value → Value → Sem Value} {r r' : R2} (h : OpR X f r) (h' : OpR X f r') : OpR X f (fun x y H Q => r x y H Q ∨ r' x y H Q) := by
 intro pins s σ H x y v u Q I rx ry q
 rcases q with q | q
 · exact h pins s σ H x y v u Q I rx ry q
 · exact h' pins s σ H x y v u Q I rx ry q

theorem nomark (b : Expr) {op : CmpOp} (h : op ≠ .In := by decide) (h2 : op ≠ .NotIn := by decide) : behindInMarks op b = false := by
 have e1 : (op == CmpOp.In) = false := by cases op <;> first | rfl | exact absurd rfl h
 have e2 : (op == CmpOp.NotIn) = false := by cases op <;> first | rfl | exact absurd rfl h2
 cases b <;> simp [behindInMarks, e1, e2]
theorem pe_cmpR {op : CmpOp} {r : R2} (ho : OpR X (compareOp op) r) (ha : PE X a ta) (hb : PE X b tb) (hm : behindInMarks op b = false) : PE X (.Compare a [op] [b] pos) (tOp r ta tb) := by
 intro pins s σ H Q I h
 exact wpAny_Compare1 (binT ha hb I h fun v u s2 x y H2 I2 rx ry q => ho pins s2 σ H2 x y v u Q I2 rx ry q) hm
def tTest (t : TE) : TT := fun σ H Q => t σ H fun x H' => ∃ k, x = .bl k ∧ Q k H'
theorem pt_cmpR {op : CmpOp} {r : R2} (ho : OpR X (compareOp op) r) (ha : PE X a ta) (hb : PE X b tb) (hm : behindInMarks op b = false) : PT X (.Compare a [op] [b] pos) (tTest (tOp r ta tb)) := by
 intro pins s σ H Q I h
 refine wpAny_isTrue_Compare1 (thn (ha pins s σ H _ I h) fun v s1 ⟨x, H1, I1, r1, q1⟩ => thn (hb pins s1 σ H1 _ I1 q1) fun u s2 ⟨y, H2, I2, r2, q2⟩ =>
   thn (ho pins s2 σ H2 x y v u _ I2 r1 r2 q2) fun c s3 ⟨z, H3, I3, r3, k, e, q3⟩ => ?_) hm
 subst e
 cases r3
 exact wpAny_truthy_bool ⟨H3, I3, q3⟩
theorem line63 : (sizeLine : Nat) < 2 ^ 63 := by rw [sizeLine_eq]; decide
theorem op_add_str : OpR X (binaryOp .Add) (fun x y H Q => ∃ i j, x = .str i ∧ y = .str j ∧ i.length + j.length ≤ sizeLine ∧ Q (.str (i ++ j)) H) := by
 intro pins s σ H x y v u Q I rx ry h
 obtain ⟨i, j, rfl, rfl, hz, q⟩ := h
 obtain ⟨t, rfl⟩ := rx
 obtain ⟨t', rfl⟩ := ry
 exact add_str (fun t' tk => ⟨.str (i ++ j), H, I.tok _, ⟨_, rfl⟩, q⟩) hz
theorem vals1 {x : V} {us : List Value} (r : Vals [x] us) : ∃ u, us = [u] ∧ RelV x u := by
 cases r with
 | cons r1 r2 => cases r2; exact ⟨_, rfl, r1⟩
theorem vals2 {x y : V} {us : List Value} (r : Vals [x, y] us) : ∃ u w', us = [u, w'] ∧ RelV x u ∧ RelV y w' := by
 cases r with
 | cons r1 r2 =>
   cases r2 with
   | cons r3 r4 => cases r4; exact ⟨_, _, rfl, r1, r3⟩
theorem call_ord : CallR X (.builtin "ord") (fun xs H Q => ∃ x, xs = [.str x] ∧ x.length = 1 ∧ Q (.int (x.cps.getD 0 0 : Nat)) H) := by
 intro pins s σ H xs us Q I r h
 obtain ⟨x, rfl, hz, q⟩ := h
 obtain ⟨u, rfl, t, rfl⟩ := vals1 r
 exact ord_of_one hz ⟨.int _, H, I.tok _, ⟨_, rfl⟩, q⟩
end
end L2

namespace L2
open PySem PySem.Spec PyProof.Rows
structure ObjM (h : Heap) (x dx C : Addr) (mA : Str → Option Value) : Prop where
 obj : h.get? x = some (PySem.W.instObj C dx)
 ns : h.Ns1 dx mA
 ne : dx ≠ x

theorem lookIn_ns {h : Heap} {dx : Addr} {mA : Str → Option Value} (n : h.Ns1 dx mA) : ∃ od, h.get? dx = some od ∧ ∀ name, PySem.W.lookIn name od = some (mA name) := by
 obtain ⟨o, es, ep, ho, hd, hk, _, hm⟩ := n
 refine ⟨o, ho, fun name => ?_⟩
 have e := hm name
 unfold nsFind findBy at e
 rw [← Array.find?_toList] at e
 unfold PySem.W.lookIn
 rw [hd]
 dsimp only
 split
 · rename_i y q
   rw [q] at e
   exact congrArg some e
 · rename_i q
   rw [q] at e
   have a : es.toList.any (·.refKey) = false := by
     rw [List.any_eq_false]
     intro y hy
     obtain ⟨z, t, hkey⟩ := hk y (Array.mem_toList_iff.mp hy)
     simp [DictEntry.refKey, hkey]
   have a' : ¬ es.toList.any (·.refKey) = true := by rw [a]; exact Bool.false_ne_true
   rw [if_neg a']
   exact congrArg some e

theorem ObjM.look {h : Heap} {x dx C : Addr} {mA : Str → Option Value} (I : ObjM h x dx C mA) : ∃ od, PySem.W.InstAt h x (PySem.W.instObj C dx) C (some od) ∧ ∀ name, PySem.W.lookIn name od = some (mA name) :=
 let ⟨od, ho, hl⟩ := lookIn_ns I.ns
 ⟨od, ⟨I.obj, rfl, rfl, ho⟩, hl⟩

section
variable {prog : Program} {w : World} {A : Around} {E : Value → Shared → Prop} {s : Shared} {K : PySem.W.Frag} {x dx C f : Addr} {mA : Str → Option Value} {name : Str} {v : Value}

theorem get_map {expr : Bool} {Q : Value → Shared → Prop} (X : K.In s.heap) (I : ObjM s.heap x dx C mA) (hg : PySem.W.plainGet K C name = true) (hh : PySem.W.hasDictIn K C = true)
   (ha : PySem.W.findIn K (.ref C) name = some none) (hv : mA name = some v) (hv' : PySem.W.handedIn v = true) (h : Q v { s with toks := s.toks + 1 }) :
   wpAny (model prog w) A (getAttr (.ref x) name expr) Q E s := by
 obtain ⟨od, J, hl⟩ := I.look
 exact PySem.W.get_value X J (PySem.W.plainGet_of hg).1 (PySem.W.findObj_own hh ha rfl (by rw [hl, hv])) hv' h

theorem get_meth {pl : Sem Bool} {Q : Value × List Value → Shared → Prop} (X : K.In s.heap) (I : ObjM s.heap x dx C mA) (hg : PySem.W.plainGet K C name = true)
   (hf : PySem.W.findIn K (.ref C) name = some (some (.ref f))) (ht : PySem.W.isFn K (.ref f) = true) (hv : mA name = none) (h : Q (.ref f, [.ref x]) s) :
   wpAny (model prog w) A (getMethod (.ref x) name pl) Q E s := by
 obtain ⟨od, J, hl⟩ := I.look
 exact PySem.W.method_fn X J (PySem.W.plainGet_of hg).1 (PySem.W.plainGet_of hg).2 hf (beq_iff_eq.mp ht) (by show (PySem.W.lookIn name od).map (·.isSome) = some false; rw [hl, hv]; rfl) h

theorem set_map {ns : List Str} {Q : Unit → Shared → Prop} (X : K.In s.heap) (I : ObjM s.heap x dx C mA)
   (hs : PySem.W.findIn K (.ref C) "__setattr__" = some (some (.builtin "object.__setattr__"))) (hp : PySem.W.plainOver K C = true) (ht : PySem.W.takerIn K C name = some none) (hh : PySem.W.hasDictIn K C = true)
   (hw : PySem.Within mA ns) (hsz : ns.length ≤ sizeLine)
   (h : ∀ h', ObjM h' x dx C (fun y => if y = name then some v else mA y) → Heap.SameBut dx s.heap h' → Q () { s with heap := h', toks := s.toks + 2 }) :
   wpAny (model prog w) A (setAttr (.ref x) name v) Q E s := by
 obtain ⟨od, J, hl⟩ := I.look
 refine PySem.W.set_plain X J hs (PySem.W.osa_open (s := { s with toks := s.toks + 1 }) (r := none) X J hp ht fun b => ?_)
 obtain ⟨cd, hc, hd'⟩ := PySem.W.any_some hh
 have hx : s.heap.get? x = some ⟨.ref C, some dx, .plain, #[]⟩ := I.obj
 refine wpAny_bind (wpAny_pure (wpAny_bind (wpAny_bind (wpAny_loadPart hx (wpAny_bind (PySem.W.Looks.here (s := { s with toks := s.toks + 1 }) (PySem.W.looks_clsIn X hc) ?_))))))
 rw [hd']
 refine wpAny_pure (a := some dx) (wpAny_bind (wpAny_pure (wpAny_bind ?_)))
 refine wpAny_nsSet1 (s := { s with toks := s.toks + 1 }) I.ns fun h' hn2 hs2 => ?_
 obtain ⟨oD, esD, epD, hoD, hdD, hcD⟩ := hn2.count (PySem.Within.cons name v hw)
 refine wpAny_bind (wpAny_lookBehind hoD (by rw [hdD]; exact pastItsLine_dict (Nat.le_trans hcD (by rw [List.length_cons]; omega))) ?_)
 exact wpAny_pure (h _ ⟨(hs2.2 _ (Ne.symm I.ne)).trans I.obj, hn2, I.ne⟩ hs2)
theorem make_map {R : Result → Shared → Prop} {vs : List Value} {kw : List (Str × Value)} (X : K.In s.heap) (hm : PySem.W.makesIn K C = true)
   (hi : PySem.W.findIn K (.ref C) "__init__" = some (some (.ref f))) (hf : PySem.W.typeIn K (.ref f) = some (.type "function"))
   (h : codeAny (model prog w) (A.under (.builtin "type.__call__" ⟨.ref C :: vs, kw⟩)) (.call (.ref f) ⟨.ref (s.heap.objs.size + 1) :: vs, kw⟩) (PySem.W.InitBack (s.heap.objs.size + 1) R)
     { s with heap := (s.heap.push PySem.W.emptyDict).push (PySem.W.instObj C s.heap.objs.size) }) :
   codeAny (model prog w) A (.call (.ref C) ⟨vs, kw⟩) R s := by
 obtain ⟨hh, g, d, t, os⟩ := s
 exact PySem.W.make_core (PySem.W.makes_of X hm) (PySem.W.looks_findIn X hi) (fun self => PySem.W.bind_fn X self hf) (.inl rfl) h
end
def putF (f : Str) (v : V) : List (Str × V) → List (Str × V)
 | [] => [(f, v)]
 | (g, x) :: r => if g = f then (g, v) :: r else (g, x) :: putF f v r
theorem lookup_putF (f g : Str) (v : V) : ∀ fs : List (Str × V), (putF f v fs).lookup g = if g = f then some v else fs.lookup g
 | [] => by
   show List.lookup g [(f, v)] = _
   by_cases h : g = f
   · have hb : (g == f) = true := beq_iff_eq.mpr h
     simp only [List.lookup, hb, if_pos h]
   · have hb : (g == f) = false := beq_eq_false_iff_ne.mpr h
     simp only [List.lookup, hb, if_neg h]
 | (k, x) :: r => by
   have ih := lookup_putF f g v r
   rw [show putF f v ((k, x) :: r) = (if k = f then (k, v) :: r else (k, x) :: putF f v r) from rfl]
   by_cases hk : k = f
   · rw [if_pos hk]
     by_cases h : g = k
     · have hb : (g == k) = true := beq_iff_eq.mpr h
       simp only [List.lookup, hb, if_pos (h.trans hk)]
     · have hb : (g == k) = false := beq_eq_false_iff_ne.mpr h
       simp only [List.lookup, hb, if_neg (fun e : g = f => h (e.trans hk.symm))]
   · rw [if_neg hk]
     by_cases h : g = k
     · have hb : (g == k) = true := beq_iff_eq.mpr h
       simp only [List.lookup, hb, if_neg (fun e : g = f => hk (h.symm.trans e))]
     · have hb : (g == k) = false := beq_eq_false_iff_ne.mpr h
       simp only [List.lookup, hb]
       exact ih
theorem keys_putF (f : Str) (v : V) : ∀ fs : List (Str × V), f ∈ (putF f v fs).map (·.1) ∧ ∀ g, g ∈ fs.map (·.1) → g ∈ (putF f v fs).map (·.1)
 | [] => ⟨by simp [putF], fun g h => by simp at h⟩
 | (k, x) :: r => by
   obtain ⟨i1, i2⟩ := keys_putF f v r
   rw [show putF f v ((k, x) :: r) = (if k = f then (k, v) :: r else (k, x) :: putF f v r) from rfl]
   by_cases hk : k = f
   · rw [if_pos hk]
     subst hk
     exact ⟨by simp, fun g h => by simpa using h⟩
   · rw [if_neg hk]
     refine ⟨?_, fun g h => ?_⟩
     · rw [List.map_cons]
       exact List.mem_cons_of_mem _ i1
     · rw [List.map_cons] at h ⊢
       rcases List.mem_cons.mp h with e | e
       · exact List.mem_cons.mpr (.inl e)
       · exact List.mem_cons_of_mem _ (i2 g e)
theorem length_putF (f : Str) (v : V) : ∀ fs : List (Str × V), (putF f v fs).length ≤ fs.length + 1
 | [] => by simp [putF]
 | (k, x) :: r => by
   have ih := length_putF f v r
   rw [show putF f v ((k, x) :: r) = (if k = f then (k, v) :: r else (k, x) :: putF f v r) from rfl]
   by_cases hk : k = f
   · rw [if_pos hk, List.length_cons, List.length_cons]; omega
   · rw [if_neg hk, List.length_cons, List.length_cons]; omega

theorem RelO.some_of {v : V} {o : Option Value} (r : RelO (some v) o) : ∃ u, o = some u ∧ RelV v u := by
 cases o with
 | none => exact (show False from r).elim
 | some u => exact ⟨u, rfl, r⟩
theorem RelO.none_of {o : Option Value} (r : RelO none o) : o = none := by
 cases o with
 | none => rfl
 | some u => exact (show False from r).elim
theorem handed_of {v : V} {u : Value} (r : RelV v u) : PySem.W.handedIn u = true := by
 cases v with
 | non => cases (show u = Value.none from r); rfl
 | bl b => cases (show u = Value.bool b from r); rfl
 | int i => obtain ⟨t, e⟩ := (show ∃ t, u = Value.int i t from r); cases e; rfl
 | str x => obtain ⟨t, e⟩ := (show ∃ t, u = Value.str x t from r); cases e; rfl
 | byt b => obtain ⟨t, e⟩ := (show ∃ t, u = Value.bytes b t from r); cases e; rfl
 | flt b => obtain ⟨t, e⟩ := (show ∃ t, u = Value.float b t from r); cases e; rfl
 | ref a => cases (show u = Value.ref a from r); rfl
 | ty n => cases (show u = Value.type n from r); rfl

section
variable {P : Program} {w : World} {H H' : Hp} {h h' : Heap} {a C dx : Addr} {fs fs' : List (Str × V)}
theorem ins_get (hok : HOk P w H h) (e : H a = some (.ins C dx fs)) : ∃ mA, ObjM h a dx C mA ∧ (∀ f, RelO (fs.lookup f) (mA f)) ∧ PySem.Within mA (fs.map (·.1)) ∧ fs.length ≤ 1000 ∧ H dx = some (.own a) := by
 obtain ⟨d, z, ne, ob, mA, n, r, q⟩ := (show ObjOk P w H h a (.ins C dx fs) from hok a _ e)
 exact ⟨mA, ⟨ob, n, ne⟩, r, q, z, d⟩
end
structure Cls (K : PySem.W.Frag) (C : Addr) : Prop where
 pg : PySem.W.plainGet K C Str.empty = true
 hd : PySem.W.hasDictIn K C = true
 po : PySem.W.plainOver K C = true
 sa : PySem.W.findIn K (.ref C) "__setattr__" = some (some (.builtin "object.__setattr__"))
theorem Cls.get {K : PySem.W.Frag} {C : Addr} (c : Cls K C) (f : Str) : PySem.W.plainGet K C f = true := c.pg
def NoAttr (K : PySem.W.Frag) (C : Addr) (f : Str) : Prop := PySem.W.findIn K (.ref C) f = some none
theorem NoAttr.taker {K : PySem.W.Frag} {C : Addr} {f : Str} (n : NoAttr K C f) : PySem.W.takerIn K C f = some none := by
 unfold PySem.W.takerIn
 rw [show PySem.W.findIn K (.ref C) f = some none from n]
 rfl
structure Meth (K : PySem.W.Frag) (C : Addr) (m : Str) (f : Addr) : Prop where
 at_ : PySem.W.findIn K (.ref C) m = some (some (.ref f))
 fn : PySem.W.isFn K (.ref f) = true
 kp : PySem.W.keepIn K (.ref f) = true

section
variable {X : Cx} {pins : List (Addr × Obj)} {σ : St} {H : Hp} {s : Shared} {a C dx : Addr} {fs : List (Str × V)} {f : Str} {v : V} {A : Around} {E : Value → Shared → Prop}

theorem getattr_ok {b : Bool} {Q : Value → Shared → Prop} (I : Inv X pins σ H s) (e : H a = some (.ins C dx fs)) (c : Cls X.K C) (n : NoAttr X.K C f) (l : fs.lookup f = some v)
   (h : ∀ u s', Inv X pins σ H s' → RelV v u → Q u s') : wpAny (model X.prog X.w) A (getAttr (.ref a) f b) Q E s := by
 obtain ⟨mA, O, r, _, _, _⟩ := ins_get I.hok e
 obtain ⟨u, hu, ru⟩ := RelO.some_of (v := v) (o := mA f) (by rw [← l]; exact r f)
 exact get_map I.kIn O (c.get f) c.hd n hu (handed_of ru) (h u _ (I.tok _) ru)

theorem getmeth_ok {m : Str} {g : Addr} {pl : Sem Bool} {Q : Value × List Value → Shared → Prop} (I : Inv X pins σ H s) (e : H a = some (.ins C dx fs)) (c : Cls X.K C) (k : Meth X.K C m g) (l : fs.lookup m = none)
   (h : Q (.ref g, [.ref a]) s) : wpAny (model X.prog X.w) A (getMethod (.ref a) m pl) Q E s := by
 obtain ⟨mA, O, r, _, _, _⟩ := ins_get I.hok e
 have hn : mA m = none := RelO.none_of (by rw [← l]; exact r m)
 exact get_meth I.kIn O (c.get m) k.at_ k.fn hn h

theorem setattr_ok {y : V} {u : Value} {Q : Unit → Shared → Prop} (I : Inv X pins σ H s) (e : H a = some (.ins C dx fs)) (c : Cls X.K C) (n : NoAttr X.K C f) (hl : fs.length < 1000) (ry : RelV y u)
   (h : ∀ s', Inv X pins σ (upd H a (.ins C dx (putF f y fs))) s' → Q () s') : wpAny (model X.prog X.w) A (setAttr (.ref a) f u) Q E s := by
 obtain ⟨mA, O, r, wi, _, ho⟩ := ins_get I.hok e
 have hz : (fs.map (·.1)).length ≤ sizeLine := by rw [List.length_map, sizeLine_eq]; omega
 refine set_map I.kIn O c.sa c.po n.taker c.hd wi hz fun h' O' sb => h _ ?_
 have hd : ∃ o, h'.get? dx = some o := let ⟨o, _, _, e', _⟩ := O'.ns; ⟨o, e'⟩
 refine I.write (x := a) (e := dx) (by rw [e]; exact True.intro) (.inr ho) (fun b q hb z => (sb.2 b hb).trans z) hd ?_
 refine ⟨by rw [upd_ne O.ne]; exact ho, ?_, O.ne, O'.obj, _, O'.ns, fun g => ?_, fun g hg => ?_⟩
 · have := length_putF f y fs; omega
 · show RelO ((putF f y fs).lookup g) (if g = f then some u else mA g)
   rw [lookup_putF]
   by_cases q : g = f
   · rw [if_pos q, if_pos q]; exact ry
   · rw [if_neg q, if_neg q]; exact r g
 · by_cases q : g = f
   · rw [q]; exact (keys_putF f y fs).1
   · refine (keys_putF f y fs).2 g (wi g fun z => hg ?_)
     show (if g = f then some u else mA g) = none
     rw [if_neg q]; exact z
theorem Inv.made (I : Inv X pins σ H s) : Inv X pins σ (upd (upd H s.heap.objs.size (.own (s.heap.objs.size + 1))) (s.heap.objs.size + 1) (.ins C s.heap.objs.size []))
   { s with heap := (s.heap.push PySem.W.emptyDict).push (PySem.W.instObj C s.heap.objs.size) } := by
 have e1 : (s.heap.push PySem.W.emptyDict).get? s.heap.objs.size = some PySem.W.emptyDict := Heap.get?_push_size s.heap rfl
 have e2 : ((s.heap.push PySem.W.emptyDict).push (PySem.W.instObj C s.heap.objs.size)).get? (s.heap.objs.size + 1) = some (PySem.W.instObj C s.heap.objs.size) := by
   have := Heap.get?_push_size (s.heap.push PySem.W.emptyDict) (o := PySem.W.instObj C s.heap.objs.size) rfl
   rwa [Heap.size_push] at this
 have e3 : (s.heap.push PySem.W.emptyDict).Ns s.heap.objs.size (fun _ => none) := ⟨PySem.W.emptyDict, #[], _, e1, rfl, (fun e he => absurd he (by simp)), fun _ => rfl⟩
 have I1 := I.laid (a := s.heap.objs.size) (o := .own (s.heap.objs.size + 1)) (h' := s.heap.push PySem.W.emptyDict) (t' := s.toks) (fun b u q => Heap.get?_push_of_some _ q) (Nat.le_refl _) ⟨_, e1⟩
 refine I1.laid (a := s.heap.objs.size + 1) (o := .ins C s.heap.objs.size []) (t' := s.toks) (fun b u q => Heap.get?_push_of_some _ q) (Nat.le_of_eq (Heap.size_push _ _)) ?_
 have ne : s.heap.objs.size ≠ s.heap.objs.size + 1 := Nat.ne_of_lt (Nat.lt_succ_self _)
 refine ⟨by rw [upd_ne ne, upd_same], Nat.zero_le _, ne, e2, fun _ => none, (Heap.Ns1.of_empty e3).at fun o q => Heap.get?_push_of_some _ q, fun _ => True.intro, fun y hy => absurd rfl hy⟩
theorem attr_of {prog : Program} {w : World} {env : Env} {e : Expr} {f : Str} {pos : Pos} {s : Shared} {Q : Value → Shared → Prop} (hb : attributeBase e f env (eval e env) = eval e env)
   (h : wpAny (model prog w) A (eval e env) (fun o s₁ => wpAny (model prog w) A (getAttr o f true) Q E s₁) E s) : wpAny (model prog w) A (eval (.Attribute e f pos) env) Q E s :=
 Attribute_any_ h (by rw [arm_eval_Attribute, hb])
end
def tFld (K : PySem.W.Frag) (ta : TE) (f : Str) : TE := fun σ H Q => ta σ H fun x H1 => ∃ a C dx fs v, x = .ref a ∧ H1 a = some (.ins C dx fs) ∧ Cls K C ∧ NoAttr K C f ∧ fs.lookup f = some v ∧ Q v H1
def sFld (K : PySem.W.Frag) (ta tv : TE) (f : Str) : TS := fun D σ H => tv σ H fun y H1 => ta σ H1 fun x H2 => ∃ a C dx fs, x = .ref a ∧ H2 a = some (.ins C dx fs) ∧ Cls K C ∧ NoAttr K C f ∧ fs.length < 1000 ∧
 D.nx σ (upd H2 a (.ins C dx (putF f y fs)))
section
variable {X : Cx} {o e value : Expr} {f : Str} {pos pos' tpos : Pos} {ta tv : TE}
theorem pe_fld (he : PE X e ta) (hb : attributeBase e f X.env (eval e X.env) = eval e X.env) : PE X (.Attribute e f pos) (tFld X.K ta f) := by
 intro pins s σ H Q I h
 refine attr_of hb (thn (he pins s σ H _ I h) fun u s1 ⟨x, H1, I1, rx, a, C, dx, fs, v, ex, ea, c, n, l, q⟩ => ?_)
 subst ex
 obtain rfl : u = Value.ref a := rx
 exact getattr_ok I1 ea c n l fun u' s2 I2 ru => ⟨v, H1, I2, ru, q⟩
theorem ps_fld (ha : PE X o ta) (hv : PE X value tv) (hs : swapsWith value (some (.Attribute o f pos')) pos.line X.env = pure false) : PS X (.Assign [.Attribute o f pos'] value pos) (sFld X.K ta tv f) := by
 intro pins s σ H D I h
 refine plainObj_wpAny_Assign_Attribute (thn (hv pins s σ H _ I h) fun u s1 ⟨y, H1, I1, ry, q⟩ => thn (ha pins s1 σ H1 _ I1 q) fun ov s2 ⟨x, H2, I2, rx, a, C, dx, fs, ex, ea, c, n, l, q2⟩ => ?_) hs
 subst ex
 obtain rfl : ov = Value.ref a := rx
 exact setattr_ok I2 ea c n l ry fun s3 I3 => ⟨σ, _, I3, q2⟩
end
section
variable {X : Cx} {pins : List (Addr × Obj)} {σ : St} {H : Hp} {s : Shared} {A : Around} {E : Value → Shared → Prop} {Q : Value → Shared → Prop} {c : Value} {b : Bool}
inductive TyOf (K : PySem.W.Frag) (H : Hp) : V → Value → Prop where
 | non : TyOf K H .non (.type "NoneType")
 | bl (x : Bool) : TyOf K H (.bl x) (.type "bool")
 | int (i : Int) : TyOf K H (.int i) (.type "int")
 | str (x : Str) : TyOf K H (.str x) (.type "str")
 | flt (x : UInt64) : TyOf K H (.flt x) (.type "float")
 | lst {a : Addr} {xs : List V} (e : H a = some (.lst xs)) : TyOf K H (.ref a) (.type "list")
 | frz {a : Addr} {o : Obj} {xs : List V} (e : H a = some (.frz o (.lst xs))) : TyOf K H (.ref a) (.type "list")
 | tup {a : Addr} {xs : List V} (e : H a = some (.tup xs)) : TyOf K H (.ref a) (.type "tuple")
 | dK {a : Addr} {kvs : List (Key × V)} (e : H a = some (.dK kvs)) : TyOf K H (.ref a) (.type "dict")
 | dT {a : Addr} {kvs : List (List Key × V)} (e : H a = some (.dT kvs)) : TyOf K H (.ref a) (.type "dict")
 | ins {a C dx : Addr} {fs : List (Str × V)} (e : H a = some (.ins C dx fs)) (cl : Cls K C) (ha : PySem.W.findIn K (.ref C) "__class__" = some (some (.builtin "object.__class__")))
     (hn : PySem.W.specialIn K (.builtin "object.__class__") "__get__" = some (some (.builtin "getset_descriptor.__get__"))) (htk : PySem.W.takesIn K (.builtin "object.__class__") = some true)
     (hm : PySem.W.mroIn K C (.type "object") = some true) : TyOf K H (.ref a) (.ref C)
theorem isinst_ok {x : V} {u t : Value} (I : Inv X pins σ H s) (rx : RelV x u) (ty : TyOf X.K H x t) (e : PySem.W.kitOne X.K t c = some b) (h : ∀ tk, Q (.bool b) { s with toks := tk }) :
   wpAny (model X.prog X.w) A (call (.builtin "isinstance") [u, c]) Q E s := by
 cases ty with
 | non => cases (show u = Value.none from rx); exact PySem.W.kia_one PySem.W.kitx_none I.kIn True.intro e (fun z => nomatch z) h
 | bl y => cases (show u = Value.bool y from rx); exact PySem.W.kia_one PySem.W.kitx_bool I.kIn True.intro e (fun z => nomatch z) h
 | int i => obtain ⟨t, q⟩ := (show ∃ t, u = Value.int i t from rx); cases q; exact PySem.W.kia_one PySem.W.kitx_int I.kIn True.intro e (fun z => nomatch z) h
 | str y => obtain ⟨t, q⟩ := (show ∃ t, u = Value.str y t from rx); cases q; exact PySem.W.kia_one PySem.W.kitx_str I.kIn True.intro e (fun z => nomatch z) h
 | flt y => obtain ⟨t, q⟩ := (show ∃ t, u = Value.float y t from rx); cases q; exact PySem.W.kia_one PySem.W.kitx_float I.kIn True.intro e (fun z => nomatch z) h
 | @lst a xs ea =>
   cases (show u = Value.ref a from rx)
   obtain ⟨_, _, n, _, h1⟩ := (show ObjOk X.prog X.w H s.heap a (.lst xs) from I.hok a _ ea)
   exact PySem.W.kia_one PySem.W.kitx_list I.kIn ⟨_, h1, rfl⟩ e (fun z => nomatch z) h
 | @frz a ob xs ea =>
   cases (show u = Value.ref a from rx)
   obtain ⟨_, _, _, n, _, h1⟩ := (show ObjOk X.prog X.w H s.heap a (.frz ob (.lst xs)) from I.hok a _ ea)
   exact PySem.W.kia_one PySem.W.kitx_list I.kIn ⟨_, h1, rfl⟩ e (fun z => nomatch z) h
 | @tup a xs ea =>
   cases (show u = Value.ref a from rx)
   obtain ⟨_, _, _, p⟩ := (show ObjOk X.prog X.w H s.heap a (.tup xs) from I.hok a _ ea)
   obtain ⟨o, h1, h2, _⟩ := p
   exact PySem.W.kia_one PySem.W.kitx_tuple I.kIn ⟨o, h1, h2⟩ e (fun z => nomatch z) h
 | @dK a kvs ea =>
   cases (show u = Value.ref a from rx)
   obtain ⟨_, _, vs, _, p⟩ := (show ObjOk X.prog X.w H s.heap a (.dK kvs) from I.hok a _ ea)
   obtain ⟨o, es, ep, h1, h2, _⟩ := p
   exact PySem.W.kia_one PySem.W.kitx_dict I.kIn ⟨o, h1, h2.1⟩ e (fun z => nomatch z) h
 | @dT a kvs ea =>
   cases (show u = Value.ref a from rx)
   obtain ⟨_, _, xs, _, o, es, ep, h1, h2, _⟩ := (show ObjOk X.prog X.w H s.heap a (.dT kvs) from I.hok a _ ea)
   exact PySem.W.kia_one PySem.W.kitx_dict I.kIn ⟨o, h1, h2.1⟩ e (fun z => nomatch z) h
 | @ins a C dx fs ea cl ha hn htk hm =>
   cases (show u = Value.ref a from rx)
   obtain ⟨mA, O, _⟩ := ins_get I.hok ea
   obtain ⟨od, J, _⟩ := O.look
   exact PySem.W.kia_one (PySem.W.kitx_own (cl.get _) cl.hd ha hn htk hm) I.kIn J e (fun z => nomatch z) h
end
end L2

namespace L2
open PySem PySem.Spec PyProof.Rows
structure Room (k : Nat) (A : Around) : Prop where
 hd : A.handled = none
 dp : A.depth + 3 * k + 5 < recursionLimit
 un : A.units + 16 * k + 200 < cLine
theorem Room.mono {j k : Nat} {A : Around} (r : Room k A) (h : j ≤ k) : Room j A := ⟨r.hd, by have := r.dp; omega, by have := r.un; omega⟩
theorem Room.deeper {k : Nat} {A : Around} (r : Room (k + 1) A) (env : Env) : Room k (A.deeper env) :=
 ⟨r.hd, by have := r.dp; show A.depth + 1 + 3 * k + 5 < _; omega, by have := r.un; show A.units + 3 + 16 * k + 200 < _; omega⟩
theorem Room.in1 {k : Nat} {A : Around} (r : Room (k + 1) A) : Room k A.in1 :=
 ⟨r.hd, by have := r.dp; show A.depth + 3 * k + 5 < _; omega, by have := r.un; show A.units + 1 + 16 * k + 200 < _; omega⟩
theorem make_depth {A : Around} {C : Addr} {us : List Value} {kw : List (Str × Value)} : (A.under (.builtin "type.__call__" ⟨.ref C :: us, kw⟩)).depth = A.depth + 1 := by
 first | rfl | simp [Around.under, Code.weight, Code.isCreation, Code.isGuard, Code.isCaller, Code.frames, Code.isFrame, guardIds]
theorem make_units {A : Around} {C : Addr} {us : List Value} {kw : List (Str × Value)} : (A.under (.builtin "type.__call__" ⟨.ref C :: us, kw⟩)).units = A.units + 1 := by
 first | rfl | simp [Around.under, Code.cUnits, Code.frames, Code.isFrame]
theorem Room.make {k : Nat} {A : Around} (r : Room (k + 1) A) (C : Addr) (us : List Value) (kw : List (Str × Value)) : Room k (A.under (.builtin "type.__call__" ⟨.ref C :: us, kw⟩)) :=
 ⟨r.hd, by have := r.dp; rw [make_depth]; omega, by have := r.un; rw [make_units]; omega⟩
theorem Room.depth {k : Nat} {A : Around} (r : Room k A) : A.depth < recursionLimit := by have := r.dp; omega
theorem Room.units {k : Nat} {A : Around} (r : Room k A) : A.units + 64 < cLine := by have := r.un; omega
theorem Room.units0 {k : Nat} {A : Around} (r : Room k A) : A.units < cLine := by have := r.un; omega
def tNil : TA := fun _ H Q => Q [] H
def tCons (ta : TE) (tr : TA) : TA := fun σ H Q => ta σ H fun x H1 => tr σ H1 fun xs H2 => Q (x :: xs) H2
section
variable {X : Cx} {e : Expr} {es : List Expr} {te : TE} {t : TA} {pos : Pos}
theorem pa_nil : PA X [] tNil := fun _ _ _ _ H Q I h => Calls.spliced_nil ⟨[], H, I, .nil, h⟩
theorem pa_cons (ha : PE X e te) (hr : PA X es t) (hs : starEach (e :: es) X.env = (false, eval e X.env) :: starEach es X.env := by rfl) : PA X (e :: es) (tCons te t) := by
 intro pos pins s σ H Q I h
 rw [hs]
 show wpAny _ _ (spliced ((false, eval e X.env) :: backTo pos (starEach es X.env))) _ _ s
 refine Calls.spliced_cons (thn (ha pins s σ H _ I h) fun u s1 ⟨x, H1, I1, r1, q1⟩ => ?_)
 exact thn (hr pos pins s1 σ H1 _ I1 q1) fun us s2 ⟨xs, H2, I2, r2, q2⟩ => ⟨x :: xs, H2, I2, .cons r1 r2, q2⟩
def tTup (t : TA) : TE := fun σ H Q => t σ H fun xs H1 => xs.length ≤ sizeLine ∧ ∀ p, H1 p = none → Q (.ref p) (upd H1 p (.tup xs))
def tLst (t : TA) : TE := fun σ H Q => t σ H fun xs H1 => xs.length ≤ sizeLine ∧ ∀ p, H1 p = none → Q (.ref p) (upd H1 p (.lst xs))
theorem pe_tup {x1} (h : PA X es t) : PE X (.Tuple es x1 pos) (tTup t) := by
 intro pins s σ H Q I hq
 refine wpAny_Tuple_spliced (thn (h pos pins s σ H _ I hq) fun us s1 ⟨xs, H1, I1, r, z, q⟩ => ⟨by rw [← r.length]; exact z, ?_⟩)
 have hf : H1 s1.heap.objs.size = none := I1.hok.fresh (Nat.le_refl _)
 refine ⟨.ref s1.heap.objs.size, upd H1 s1.heap.objs.size (.tup xs), I1.laid (t' := s1.toks) (fun b u e => Heap.get?_push_of_some _ e) (Nat.le_refl _) ?_, rfl, q _ hf⟩
 exact ⟨z, us, r, ⟨_, Heap.get?_push_size _ rfl, rfl, _, rfl⟩⟩
theorem pe_lst (h : PA X es t) : PE X (.List es pos) (tLst t) := by
 intro pins s σ H Q I hq
 refine wpAny_List_spliced (thn (h pos pins s σ H _ I hq) fun us s1 ⟨xs, H1, I1, r, z, q⟩ => ⟨by rw [← r.length]; exact z, ?_⟩)
 have hf : H1 s1.heap.objs.size = none := I1.hok.fresh (Nat.le_refl _)
 refine ⟨.ref s1.heap.objs.size, upd H1 s1.heap.objs.size (.lst xs), I1.laid (t' := s1.toks) (fun b u e => Heap.get?_push_of_some _ e) (Nat.le_refl _) ?_, rfl, q _ hf⟩
 exact ⟨z, us, 0, r, Heap.get?_push_size _ rfl⟩
end
abbrev Sp := List V → Hp → VK → XK → Prop
abbrev CXT := List Env → Hp → Shared → XK → Value → Shared → Prop
structure Env0 (P : Program) (w : World) (K : PySem.W.Frag) (mg : Str → Option Value) (base : Heap) (A : Around) (outer : List Env) (s : Shared) (H : Hp) : Prop where
 frames : A.frames = some outer
 mod : Mod K mg base
 bs : ∀ b o, base.get? b = some o → s.heap.get? b = some o ∧ H b = none
 bsz : base.objs.size ≤ s.heap.objs.size
 funs : s.heap.FunFrames base outer
 frf : ∀ b ∈ frs outer, H b = none
 hok : HOk P w H s.heap
 bare : AllBare s.gens
def CE (outer : List Env) (P : Program) (w : World) (H : Hp) (s : Shared) (Q : VK) (u : Value) (s' : Shared) : Prop :=
 ∃ v H', s'.os = s.os ∧ AllBare s'.gens ∧ Un (frs outer) [] H H' s.heap s'.heap ∧ HOk P w H' s'.heap ∧ RelV v u ∧ Q v H'
def CR (CX : CXT) (outer : List Env) (P : Program) (w : World) (H : Hp) (s : Shared) (Q : VK) (E : XK) (r : Result) (s' : Shared) : Prop :=
 match r with
 | .ok (.ret u) => CE outer P w H s Q u s'
 | .ok _ => False
 | .error e => CX outer H s E e s'
structure FnOk (P : Program) (w : World) (K : PySem.W.Frag) (mg : Str → Option Value) (base : Heap) (CX : CXT) (k : Nat) (f : Addr) (fd : FuncData) (ps : List Str) (sp : Sp) : Prop where
 len : ∀ vs H Q E, sp vs H Q E → vs.length = ps.length
 run : ∀ (A : Around) (outer : List Env) (s : Shared) (H : Hp) (args : Args) (us : List Value) (vs : List V) (Q : VK) (E : XK), Room k A → Env0 P w K mg base A outer s H → BindsTo s fd args (ps.zip us) → Vals vs us → sp vs H Q E →
   codeAny (model P w) A (.call (.ref f) args) (CR CX outer P w H s Q E) s
theorem FnOk.mono {P : Program} {w : World} {K : PySem.W.Frag} {mg : Str → Option Value} {base : Heap} {CX : CXT} {j k : Nat} {f : Addr} {fd : FuncData} {ps : List Str} {sp : Sp} (F : FnOk P w K mg base CX j f fd ps sp) (h : j ≤ k) :
 FnOk P w K mg base CX k f fd ps sp := ⟨F.len, fun A outer s H args us vs Q E hr => F.run A outer s H args us vs Q E (hr.mono h)⟩
theorem Env0.make {P : Program} {w : World} {K : PySem.W.Frag} {mg : Str → Option Value} {base : Heap} {A : Around} {outer : List Env} {s : Shared} {H : Hp} (e : Env0 P w K mg base A outer s H) (C : Addr) (us : List Value) (kw : List (Str × Value)) :
 Env0 P w K mg base (A.under (.builtin "type.__call__" ⟨.ref C :: us, kw⟩)) outer s H := ⟨by first | exact e.frames | (simpa [Around.under, Code.envs, Code.isFrame, pushEnvs] using e.frames), e.mod, e.bs, e.bsz, e.funs, e.frf, e.hok, e.bare⟩
theorem Env0.in1 {P : Program} {w : World} {K : PySem.W.Frag} {mg : Str → Option Value} {base : Heap} {A : Around} {outer : List Env} {s : Shared} {H : Hp} (e : Env0 P w K mg base A outer s H) :
 Env0 P w K mg base A.in1 outer s H := ⟨e.frames, e.mod, e.bs, e.bsz, e.funs, e.frf, e.hok, e.bare⟩

section
variable {X : Cx} {pins : List (Addr × Obj)} {σ : St} {H : Hp} {s s' : Shared}
theorem Inv.env0 (I : Inv X pins σ H s) : Env0 X.prog X.w X.K X.mg X.base X.A X.stack s H :=
 ⟨I.ok.frames, I.ok.mod, I.bs, Nat.le_trans I.ok.bsz I.sz, I.stack, I.stkFree, I.hok, I.bare⟩
theorem Inv.after {Q : VK} {u : Value} (I : Inv X pins σ H s) (h : CE X.stack X.prog X.w H s Q u s') : EP X pins σ Q u s' := by
 obtain ⟨v, H', os, bare, un, hok, r, q⟩ := h
 obtain ⟨hh, g, d, t, os'⟩ := s'
 obtain rfl : os' = s.os := os
 exact ⟨v, H', I.call (h' := hh) (g' := g) (d' := d) (t' := t) (ch := []) un hok bare (fun b z => absurd z (by simp)), r, q⟩
end
def tCall (sp : Sp) (dvs : List V) (E : XK) (t : TA) : TE := fun σ H Q => t σ H fun vs H1 => sp (vs ++ dvs) H1 Q E
def tMeth (C : Addr) (m : Str) (sp : Sp) (dvs : List V) (E : XK) (ta : TE) (t : TA) : TE := fun σ H Q => ta σ H fun x H1 => ∃ a dx fs, x = .ref a ∧ H1 a = some (.ins C dx fs) ∧ fs.lookup m = none ∧
 t σ H1 fun vs H2 => sp (x :: (vs ++ dvs)) H2 Q E
def tMake (C : Addr) (sp : Sp) (dvs : List V) (E : XK) (t : TA) : TE := fun σ H Q => t σ H fun vs H1 => ∀ x dx, H1 x = none → H1 dx = none → dx ≠ x →
 sp (.ref x :: (vs ++ dvs)) (upd (upd H1 dx (.own x)) x (.ins C dx [])) (fun v H2 => v = .non ∧ Q (.ref x) H2) E
def Binds (K : PySem.W.Frag) (fd : FuncData) (ps : List Str) (ds : List Value) : Prop :=
 ∀ (s : Shared) (us : List Value), K.In s.heap → (us ++ ds).length = ps.length → BindsTo s fd ⟨us, []⟩ (ps.zip (us ++ ds))
theorem Binds.all {K : PySem.W.Frag} {fd : FuncData} {ps : List Str} (h : ∀ us : List Value, us.length = ps.length → bindArgs fd ⟨us, []⟩ = pure (ps.zip us)) : Binds K fd ps [] := fun s us _ hl => by
 rw [List.append_nil] at hl ⊢
 exact .of_eq (h us hl)
def Passes (CX : CXT) (X : Cx) (E : XK) : Prop := ∀ (pins : List (Addr × Obj)) (σ : St) (H : Hp) (s : Shared) (e : Value) (s' : Shared), Inv X pins σ H s → CX X.stack H s E e s' → X.xe e s'

section
variable {X : Cx} {CX : CXT} {k : Nat} {f C : Addr} {fd : FuncData} {ps : List Str} {sp : Sp} {dvs : List V} {ds : List Value} {E : XK} {x m : Str} {p pos apos : Pos} {e o : Expr} {es : List Expr} {ta : TE} {t : TA}
theorem run_fn {pins : List (Addr × Obj)} {σ : St} {H : Hp} {s : Shared} {Q : VK} {us : List Value} {vs : List V} (F : FnOk X.prog X.w X.K X.mg X.base CX k f fd ps sp) (hr : Room k X.A) (hb : Binds X.K fd ps ds) (hd : Vals dvs ds) (hx : Passes CX X E)
   (I : Inv X pins σ H s) (r : Vals vs us) (h : sp (vs ++ dvs) H Q E) : wpAny (model X.prog X.w) X.A (call (.ref f) us) (EP X pins σ Q) X.xe s := by
 have r2 : Vals (vs ++ dvs) (us ++ ds) := r.append hd
 have hl : (us ++ ds).length = ps.length := by rw [← r2.length]; exact F.len _ _ _ _ h
 refine wpAny_call (codeAny_mono (F.run X.A X.stack s H ⟨us, []⟩ (us ++ ds) (vs ++ dvs) Q E hr I.env0 (hb s us I.kIn hl) r2 h) fun r s' hq => ?_)
 cases r with
 | error e => exact hx pins σ H s e s' I hq
 | ok fl =>
   cases fl with
   | ret u => exact I.after hq
   | next => exact False.elim hq
   | brk => exact False.elim hq
   | cont => exact False.elim hq

theorem pe_call (F : FnOk X.prog X.w X.K X.mg X.base CX k f fd ps sp) (hr : Room k X.A) (hg : Gl X x) (hm : X.mg x = some (.ref f)) (hk : PySem.W.keepIn X.K (.ref f) = true) (hb : Binds X.K fd ps ds) (hd : Vals dvs ds) (hx : Passes CX X E)
   (ha : PA X (e :: es) t) (hdb : (x == ("__debug__" : Str)) = false := by decide) (he : starEach (e :: es) X.env = (false, eval e X.env) :: starEach es X.env := by rfl) (hpl : (backTo pos (starEach es X.env)).any (·.1) = false := by rfl) :
   PE X (.Call (.Name x p) (e :: es) [] pos) (tCall sp dvs E t) := by
 intro pins s σ H Q I h
 refine wpAny_Call_Name_kw (ld_glob I hg hm ?_ hdb)
 refine PySem.W.callWith_K (h₀ := X.base) I.ok.mod.kin hk (thn (ha pos pins s σ H _ I h) fun us s1 ⟨vs, H1, I1, r, q⟩ => ⟨I1.kIn, ?_⟩) he hpl
 exact run_fn F hr hb hd hx I1 r q
theorem pe_meth {pl : Sem Bool} (he : PE X o ta) (c : Cls X.K C) (hm : Meth X.K C m f) (F : FnOk X.prog X.w X.K X.mg X.base CX k f fd ps sp) (hr : Room k X.A) (hb : Binds X.K fd ps ds) (hd : Vals dvs ds) (hx : Passes CX X E) (ha : PA X (e :: es) t)
   (hst : starEach (e :: es) X.env = (false, eval e X.env) :: starEach es X.env := by rfl) (hpl : (backTo pos (starEach es X.env)).any (·.1) = false := by rfl)
   (ht : eval (.Call (.Attribute o m apos) (e :: es) [] pos) X.env = (do
     let ov ← eval o X.env
     standAt apos.atName
     let (f, first) ← holding [ov] (getMethod ov m pl)
     callWith pos f first (backTo pos (starEach (e :: es) X.env)) (backToKw pos (keywordEach [] X.env))) := by rfl) :
   PE X (.Call (.Attribute o m apos) (e :: es) [] pos) (tMeth C m sp dvs E ta t) := by
 intro pins s σ H Q I h
 refine PySem.W.methodCall_KW (pl := pl) (thn (he pins s σ H _ I h) fun u s1 ⟨x, H1, I1, rx, a, dx, fs, ex, ea, l, q⟩ => ?_) ht
 subst ex
 obtain rfl : u = Value.ref a := rx
 refine getmeth_ok I1 ea c hm l ?_
 refine PySem.W.callWith_K (first := [.ref a]) (h₀ := X.base) I.ok.mod.kin hm.kp (thn (ha pos pins s1 σ H1 _ I1 q) fun us s2 ⟨vs, H2, I2, r, q2⟩ => ⟨I2.kIn, ?_⟩) hst hpl
 exact run_fn (us := .ref a :: us) (vs := .ref a :: vs) F hr hb hd hx I2 (.cons rfl r) q2
theorem pe_meth0 {pl : Sem Bool} (he : PE X o ta) (c : Cls X.K C) (hm : Meth X.K C m f) (F : FnOk X.prog X.w X.K X.mg X.base CX k f fd ps sp) (hr : Room k X.A) (hb : Binds X.K fd ps ds) (hd : Vals dvs ds) (hx : Passes CX X E)
   (ht : eval (.Call (.Attribute o m apos) [] [] pos) X.env = (do
     let ov ← eval o X.env
     standAt apos.atName
     let (f, first) ← holding [ov] (getMethod ov m pl)
     callWith pos f first (backTo pos (starEach [] X.env)) (backToKw pos (keywordEach [] X.env))) := by rfl) :
   PE X (.Call (.Attribute o m apos) [] [] pos) (tMeth C m sp dvs E ta tNil) := by
 intro pins s σ H Q I h
 refine PySem.W.methodCall_KW (pl := pl) (thn (he pins s σ H _ I h) fun u s1 ⟨x, H1, I1, rx, a, dx, fs, ex, ea, l, q⟩ => ?_) ht
 subst ex
 obtain rfl : u = Value.ref a := rx
 refine getmeth_ok I1 ea c hm l ?_
 exact PySem.W.callWith_K0 (first := [.ref a]) I1.kIn hm.kp (run_fn (us := [.ref a]) (vs := [.ref a]) F hr hb hd hx I1 (.cons rfl .nil) q)
structure Mk (K : PySem.W.Frag) (C f : Addr) : Prop where
 makes : PySem.W.makesIn K C = true
 init : PySem.W.findIn K (.ref C) "__init__" = some (some (.ref f))
 fn : PySem.W.isFn K (.ref f) = true
 kp : PySem.W.keepIn K (.ref C) = true

theorem run_make {pins : List (Addr × Obj)} {σ : St} {H : Hp} {s : Shared} {Q : VK} {us : List Value} {vs : List V} (M : Mk X.K C f) (F : FnOk X.prog X.w X.K X.mg X.base CX k f fd ps sp) (hr : Room (k + 1) X.A) (hb : Binds X.K fd ps ds) (hd : Vals dvs ds)
   (hx : Passes CX X E) (I : Inv X pins σ H s) (r : Vals vs us)
   (h : ∀ x dx, H x = none → H dx = none → dx ≠ x → sp (.ref x :: (vs ++ dvs)) (upd (upd H dx (.own x)) x (.ins C dx [])) (fun v H2 => v = .non ∧ Q (.ref x) H2) E) :
   wpAny (model X.prog X.w) X.A (call (.ref C) us) (EP X pins σ Q) X.xe s := by
 have hq := h (s.heap.objs.size + 1) s.heap.objs.size (I.hok.fresh (Nat.le_succ _)) (I.hok.fresh (Nat.le_refl _)) (Nat.ne_of_lt (Nat.lt_succ_self _))
 have I2 := Inv.made (C := C) I
 have r2 : Vals (V.ref (s.heap.objs.size + 1) :: (vs ++ dvs)) (Value.ref (s.heap.objs.size + 1) :: (us ++ ds)) := .cons rfl (r.append hd)
 have hl : (Value.ref (s.heap.objs.size + 1) :: us ++ ds).length = ps.length := by
   have e := r2.length
   rw [F.len _ _ _ _ hq] at e
   exact e.symm
 refine wpAny_call (make_map (f := f) I.kIn M.makes M.init (beq_iff_eq.mp M.fn) (codeAny_mono (F.run _ X.stack _ _ ⟨Value.ref (s.heap.objs.size + 1) :: us, []⟩ (Value.ref (s.heap.objs.size + 1) :: (us ++ ds)) _ _ E (hr.make C us [])
   (I2.env0.make C us []) (hb _ (Value.ref (s.heap.objs.size + 1) :: us) I2.kIn hl) r2 hq) fun r s' hq' => ?_))
 cases r with
 | error e => exact hx pins σ _ _ e s' I2 hq'
 | ok fl =>
   cases fl with
   | ret u =>
     obtain ⟨v, H', I3, rv, ev, q3⟩ := I2.after hq'
     subst ev
     exact ⟨rv, ⟨V.ref (s.heap.objs.size + 1), H', I3, rfl, q3⟩⟩
   | next => exact False.elim hq'
   | brk => exact False.elim hq'
   | cont => exact False.elim hq'
theorem pe_make (M : Mk X.K C f) (F : FnOk X.prog X.w X.K X.mg X.base CX k f fd ps sp) (hr : Room (k + 1) X.A) (hg : Gl X x) (hm : X.mg x = some (.ref C)) (hb : Binds X.K fd ps ds) (hd : Vals dvs ds) (hx : Passes CX X E)
   (ha : PA X (e :: es) t) (hdb : (x == ("__debug__" : Str)) = false := by decide) (he : starEach (e :: es) X.env = (false, eval e X.env) :: starEach es X.env := by rfl) (hpl : (backTo pos (starEach es X.env)).any (·.1) = false := by rfl) :
   PE X (.Call (.Name x p) (e :: es) [] pos) (tMake C sp dvs E t) := by
 intro pins s σ H Q I h
 refine wpAny_Call_Name_kw (ld_glob I hg hm ?_ hdb)
 refine PySem.W.callWith_K (h₀ := X.base) I.ok.mod.kin M.kp (thn (ha pos pins s σ H _ I h) fun us s1 ⟨vs, H1, I1, r, q⟩ => ⟨I1.kIn, ?_⟩) he hpl
 exact run_make M F hr hb hd hx I1 r q
end
section
variable {X : Cx} {CX : CXT} {k : Nat} {f C : Addr} {fd : FuncData} {ps ks : List Str} {sp : Sp} {E : XK} {x m : Str} {p pos apos kpos : Pos} {e o : Expr} {es : List Expr} {kws : List Keyword} {te ta : TE} {t tk : TA} {nm : Option Str}
variable {g : List Value → List Value → List Value} {gV : List V → List V → List V}
end
structure FnScope (N P : List Str) (sc : Scope) : Prop where
 kind : sc.kind = .function
 co : sc.isCoroutine = false
 gen : sc.isGenerator = false
 nd : N.Nodup
 pre : N.take P.length = P
 par : ∀ x ∈ P, sc.names.lookup x = some .local ∨ sc.names.lookup x = some .cell
 nofree : ∀ y ∈ sc.names, y.2 ≠ .free

theorem bindL_out {kindOf : Str → Option NameKind} {x : Str} : ∀ {binds : List (Str × Value)} {m : Str → Option Value}, (∀ v, (x, v) ∉ binds) → bindL kindOf binds m x = m x
 | [], _, _ => rfl
 | (n, v) :: r, m, h => by
   unfold bindL
   rw [bindL_out fun w hw => h w (List.mem_cons_of_mem _ hw)]
   split
   · have : x ≠ n := by rintro rfl; exact h v List.mem_cons_self
     simp [this]
   · rfl
theorem bindC_out {kindOf : Str → Option NameKind} {x : Str} : ∀ {binds : List (Str × Value)} {m : Str → Option Value}, (∀ v, (x, v) ∉ binds) → bindC kindOf binds m x = m x
 | [], _, _ => rfl
 | (n, v) :: r, m, h => by
   unfold bindC
   rw [bindC_out fun w hw => h w (List.mem_cons_of_mem _ hw)]
   split
   · rfl
   · have : x ≠ n := by rintro rfl; exact h v List.mem_cons_self
     simp [this]
theorem bindL_get {kindOf : Str → Option NameKind} {x : Str} {v : Value} : ∀ {P : List Str} {vs : List Value} {i : Nat} {m : Str → Option Value}, P.Nodup → P[i]? = some x → vs[i]? = some v → kindOf x = some .local →
   bindL kindOf (P.zip vs) m x = some v
 | [], _, _, _, _, h, _, _ => by simp at h
 | _ :: _, [], _, _, _, _, h, _ => by simp at h
 | p :: P, w :: vs, 0, m, nd, h1, h2, hk => by
   simp at h1 h2; subst h1; subst h2
   show bindL kindOf ((p, w) :: P.zip vs) m p = _
   unfold bindL
   rw [bindL_out fun v hv => (List.nodup_cons.mp nd).1 (List.of_mem_zip hv).1, if_pos hk]
   simp
 | p :: P, w :: vs, i + 1, m, nd, h1, h2, hk => by
   show bindL kindOf ((p, w) :: P.zip vs) m x = _
   unfold bindL
   exact bindL_get (i := i) (List.nodup_cons.mp nd).2 (by simpa using h1) (by simpa using h2) hk
theorem bindC_get {kindOf : Str → Option NameKind} {x : Str} {v : Value} : ∀ {P : List Str} {vs : List Value} {i : Nat} {m : Str → Option Value}, P.Nodup → P[i]? = some x → vs[i]? = some v → kindOf x ≠ some .local →
   bindC kindOf (P.zip vs) m x = some v
 | [], _, _, _, _, h, _, _ => by simp at h
 | _ :: _, [], _, _, _, _, h, _ => by simp at h
 | p :: P, w :: vs, 0, m, nd, h1, h2, hk => by
   simp at h1 h2; subst h1; subst h2
   show bindC kindOf ((p, w) :: P.zip vs) m p = _
   unfold bindC
   rw [bindC_out fun v hv => (List.nodup_cons.mp nd).1 (List.of_mem_zip hv).1, if_neg hk]
   simp
 | p :: P, w :: vs, i + 1, m, nd, h1, h2, hk => by
   show bindC kindOf ((p, w) :: P.zip vs) m x = _
   unfold bindC
   exact bindC_get (i := i) (List.nodup_cons.mp nd).2 (by simpa using h1) (by simpa using h2) hk
def start (N : List Str) (vs : List V) : St := vs.map some ++ List.replicate (N.length - vs.length) none
def cxOf (CX : CXT) (P : Program) (w : World) (K : PySem.W.Frag) (mg : Str → Option Value) (base : Heap) (N : List Str) (qual : Str) (scope : Scope) (f : Addr) (cd : Value) (A : Around) (outer : List Env) (s : Shared) (H : Hp) (E : XK) : Cx where
 prog := P
 w := w
 K := K
 mg := mg
 base := base
 A := A.deeper (envOfC qual scope s.heap.objs.size f cd)
 N := N
 s₀ := s
 H₀ := H
 env := envOfC qual scope s.heap.objs.size f cd
 outer := outer
 stack := envOfC qual scope s.heap.objs.size f cd :: outer
 ex := []
 calm := true
 fn := fun _ => true
 pn := []
 xe := fun e s' => wpAny (model P w) (A.deeper (envOfC qual scope s.heap.objs.size f cd)) (leaving (envOfC qual scope s.heap.objs.size f cd) e) (fun _ s'' => CX outer H s E e s'') (fun e' s'' => CX outer H s E e' s'') s'

theorem cell_has {sc : Scope} {n : Nat} {x : Str} (h : sc.names.lookup x = some .cell) : ∃ c, (cellsFrom n sc.names []).lookup x = some c := by
 have q := PySem.W.cellsFrom_some sc.names n [] (.inl h)
 exact Option.isSome_iff_exists.mp q

theorem inv_start {CX : CXT} {P : Program} {w : World} {K : PySem.W.Frag} {mg : Str → Option Value} {base : Heap} {N ps : List Str} {qual : Str} {scope : Scope} {f : Addr} {cd : Value} {A : Around} {outer : List Env} {s s1 : Shared} {H : Hp} {E : XK} {us : List Value} {vs : List V}
   (S : FnScope N ps scope) (hd : A.handled = none) (e0 : Env0 P w K mg base A outer s H) (hl : vs.length = ps.length) (r : Vals vs us)
   (x : InCallC s s.heap.objs.size (bindL (envOfC qual scope s.heap.objs.size f cd).kindOf (ps.zip us) fun _ => none) (cellsFrom (s.heap.objs.size + 1) scope.names []) (bindC (envOfC qual scope s.heap.objs.size f cd).kindOf (ps.zip us) fun _ => none) s1) :
   Inv (cxOf CX P w K mg base N qual scope f cd A outer s H E) [] (start N vs) H s1 := by
 have hpl : ps.length ≤ N.length := by have := congrArg List.length S.pre; rw [List.length_take] at this; omega
 obtain ⟨h1, tk, rfl, hk⟩ := x.done
 have noA : ∀ b : Addr, b ∉ (cxOf CX P w K mg base N qual scope f cd A outer s H E).ex := fun b z => absurd (show b ∈ ([] : List Addr) from z) (by simp)
 refine ⟨⟨e0.mod, S.kind, rfl, rfl, Nat.le_refl _, fun y z c h1 h2 => ?_, fun y hy => ?_, fun y c _ h => ?_, fun _ => hd, Around.frames_deeper e0.frames, .inr ⟨rfl, rfl⟩, fun b z => absurd z (noA b), e0.bs, e0.bsz, fun b _ _ => noA b, fun b z => absurd z (noA b), e0.funs, e0.frf⟩,
   rfl, e0.bare, Un.kept hk, ⟨_, x.toInCall.ns, fun i y v h1 h2 h3 => ?_⟩, fun y c h => ⟨_, x.cell y c h⟩, e0.hok.fresh (Nat.le_refl _), fun y c h => ?_, fun p hp => absurd (show p ∈ ([] : List (Addr × Obj)) from hp) (by simp), e0.hok.kept hk, ?_⟩
 · exact name_of_addr x.apart (PySem.mem_of_lookup h1) (PySem.mem_of_lookup h2)
 · have hy : scope.names.lookup y = some .cell ∨ scope.names.lookup y = some .free := hy
   rcases hy with hy | hy
   · exact cell_has hy
   · exact absurd rfl (S.nofree _ (PySem.mem_of_lookup hy))
 · exact Nat.le_of_lt (x.above y c (PySem.mem_of_lookup h))
 · have hi : i < vs.length := by
     unfold start at h2
     by_cases hi : i < vs.length
     · exact hi
     · rw [List.getElem?_append_right (by simpa using hi)] at h2
       rw [List.getElem?_replicate] at h2
       split at h2 <;> cases h2
   have ha : vs[i]? = some v := by
     unfold start at h2
     rw [List.getElem?_append_left (by simpa using hi), List.getElem?_map] at h2
     cases e : vs[i]? with
     | none => rw [e] at h2; cases h2
     | some a => rw [e] at h2; cases h2; rfl
   obtain ⟨u, hu, rv⟩ := r.get ha
   have hp : ps[i]? = some y := by
     rw [← S.pre, List.getElem?_take_of_lt (by omega)]; exact h1
   have ndP : ps.Nodup := by rw [← S.pre]; exact S.nd.sublist (List.take_sublist _ _)
   refine ⟨u, rv, ?_⟩
   rcases S.par y (List.mem_of_getElem? hp) with k | k
   · exact .inl ⟨k, bindL_get ndP hp hu k⟩
   · obtain ⟨c, e⟩ := cell_has (n := s.heap.objs.size + 1) k
     refine .inr ⟨.inl k, c, e, ?_⟩
     have q := x.cell y c e
     rw [bindC_get ndP hp hu (by show scope.names.lookup y ≠ _; rw [k]; decide)] at q
     exact q
 · exact e0.hok.fresh (Nat.le_of_lt (x.above y c (PySem.mem_of_lookup h)))
 · unfold start
   show _ = N.length
   rw [List.length_append, List.length_map, List.length_replicate]
   omega
theorem fn_of {CX : CXT} {P : Program} {w : World} {K : PySem.W.Frag} {mg : Str → Option Value} {base : Heap} {k : Nat} {f : Addr} {name qual : Str} {params : Arguments} {body : List Stmt} {scope : Scope} {dV kV doc pm cdv ct oc : Value} {an od : Option Addr}
   {osl : Array (Option Value)} {N ps : List Str} {sp : Sp} (lk : K.lookup f = some ⟨oc, od, .func (PySem.W.fnOf name qual params body scope dV kV doc pm an cdv ct), osl⟩) (hcd : PySem.W.codeIn K cdv qual = true) (S : FnScope N ps scope)
   (len : ∀ vs H Q E, sp vs H Q E → vs.length = ps.length)
   (hbody : ∀ (A : Around) (outer : List Env) (s : Shared) (H : Hp) (vs : List V) (Q : VK) (E : XK), Room k (A.deeper (envOfC qual scope s.heap.objs.size f cdv)) → sp vs H Q E →
     ∃ t, PSs (cxOf CX P w K mg base N qual scope f cdv A outer s H E) body t ∧ t { nx := fun _ H' => Q .non H', rt := Q } (start N vs) H) :
   FnOk P w K mg base CX (k + 1) f (PySem.W.fnOf name qual params body scope dV kV doc pm an cdv ct) ps sp := by
 refine ⟨len, fun A outer s H args us vs Q E hr e0 hb r hsp => ?_⟩
 have hl := len _ _ _ _ hsp
 have KX : K.In s.heap := e0.mod.kin.keeps fun b o e => (e0.bs b o e).1
 have lim : s.heap.NoLimit := e0.mod.nolimit.keeps fun b o e => (e0.bs b o e).1
 have hkind : ∀ y ∈ ps.zip us, scope.names.lookup y.1 = some .local ∨ (scope.names.lookup y.1 = some .cell ∧ ((cellsFrom (s.heap.objs.size + 1) scope.names []).lookup y.1).isSome = true) := fun ⟨n, v⟩ hy => by
   rcases S.par n (List.of_mem_zip hy).1 with q | q
   · exact .inl q
   · exact .inr ⟨q, PySem.W.cellsFrom_some _ _ _ (.inl q)⟩
 refine codeAny_call_function hr.depth (KX _ _ lk) rfl S.co S.gen rfl (PySem.W.codeRec_of KX hcd) (hb _ _ _ _ ?_)
 refine wpAny_newFunctionEnv_cells S.kind hkind fun env he s1 x => ?_
 subst he
 refine ⟨lim.keeps x.toInCall.keep, codeAny_func ?_⟩
 obtain ⟨t, ht, hq⟩ := hbody A outer s H vs Q E (hr.deeper _) hsp
 have I : Inv (cxOf CX P w K mg base N qual scope f cdv A outer s H E) [] (start N vs) H s1 := inv_start S hr.hd e0 hl r x
 refine wpAny_mono (ht [] s1 (start N vs) H _ I hq) (fun fl s' hs => ?_) fun e s' hs => hs
 have fin : ∀ {σ' : St} {H' : Hp} {v : V} {u : Value}, Inv (cxOf CX P w K mg base N qual scope f cdv A outer s H E) [] σ' H' s' → RelV v u → Q v H' → CE outer P w H s Q u s' :=
   fun {σ' H' v u} J rv q => ⟨v, H', J.os, J.bare, J.base, J.hok, rv, q⟩
 cases fl with
 | ret u =>
   obtain ⟨v, σ', H', J, rv, q⟩ := hs
   exact fin J rv q
 | next =>
   obtain ⟨σ', H', J, q⟩ := hs
   exact fin (v := V.non) (u := Value.none) J rfl q
 | brk =>
   obtain ⟨_, _, _, q⟩ := hs
   exact False.elim q
 | cont =>
   obtain ⟨_, _, _, q⟩ := hs
   exact False.elim q
end L2

namespace L2
open PySem PySem.Spec PyProof.Rows
section
variable {X : Cx} {x : Str} {p pos : Pos} {e : Expr} {es : List Expr} {t : TA} {id T : String} {r : List V → Hp → VK → Prop}

def tCB (r : List V → Hp → VK → Prop) (t : TA) : TE := fun σ H Q => t σ H fun vs H1 => r vs H1 Q
theorem pe_callB (hc : CallR X (.builtin id) r) (hg : Gl X x) (hm : X.mg x = none) (hv : bootBuiltins x = some (.builtin id)) (ha : PA X (e :: es) t) (hn : x ≠ "__name__" := by decide) (hdb : (x == ("__debug__" : Str)) = false := by decide)
   (he : starEach (e :: es) X.env = (false, eval e X.env) :: starEach es X.env := by rfl) (hpl : (backTo pos (starEach es X.env)).any (·.1) = false := by rfl) : PE X (.Call (.Name x p) (e :: es) [] pos) (tCB r t) := by
 intro pins s σ H Q I h
 refine wpAny_Call_Name_kw (ld_blt I hg hm hv ?_ hn hdb)
 exact PyProof.Rows.callWith_builtin1 (thn (ha pos pins s σ H _ I h) fun us s1 ⟨vs, H1, I1, r1, q1⟩ => hc pins s1 σ H1 vs us Q I1 r1 q1) he hpl
end
end L2

namespace HT
open PySem PyProof.Rows
section
open PySem.SeqAt
open PySem.AutoSeq1 (wpAny_loadPart')
open PySem.MeetsSeq PySem.MeetsSeq2 PySem.MeetsSeq3

end

section
variable {prog : Program} {w : World} {A : Around} {E : Value → Shared → Prop} {s : Shared}

def sIx (n d : Nat) : Option Int → Nat
 | none => d
 | some v => if v < 0 then (v + (n : Int)).toNat else min v.toNat n
end
end HT

namespace L2
open PySem PySem.Spec PyProof.Rows
abbrev TO := St → Hp → (Option Int → Hp → Prop) → Prop
def PO (X : Cx) (e : Option Expr) (t : TO) : Prop :=
 ∀ (pins : List (Addr × Obj)) (s : Shared) (σ : St) (H : Hp) (Q : Option Int → Hp → Prop), Inv X pins σ H s → t σ H Q →
   wpAny (model X.prog X.w) X.A (evalPart e X.env) (fun u s' => ∃ o H', Inv X pins σ H' s' ∧ IsPart u o ∧ Q o H') X.xe s
def tNoPart : TO := fun _ H Q => Q none H
def tPart (t : TE) : TO := fun σ H Q => t σ H fun x H1 => ∃ i, x = .int i ∧ Q (some i) H1

section
variable {X : Cx} {e : Expr} {te : TE} {lo hi : Option Expr} {tl th : TO} {pos p2 : Pos}

theorem po_none : PO X none tNoPart := by
 intro pins s σ H Q I h
 rw [evalPart_none]
 exact wpAny_pure ⟨none, H, I, .none, h⟩
theorem po_some (h : PE X e te) : PO X (some e) (tPart te) := by
 intro pins s σ H Q I hw
 rw [evalPart_some]
 refine thn (h pins s σ H _ I hw) fun u s1 ⟨x, H1, I1, r1, q1⟩ => ?_
 obtain ⟨i, rfl, q⟩ := q1
 obtain ⟨t, rfl⟩ := r1
 exact ⟨some i, H1, I1, .int i t, q⟩
def SlR (X : Cx) (r : V → Option Int → Option Int → Hp → VK → Prop) : Prop :=
 ∀ (pins : List (Addr × Obj)) (s : Shared) (σ : St) (H : Hp) (x : V) (v vl vu : Value) (lo hi : Option Int) (sl : Addr) (Q : VK), Inv X pins σ H s → RelV x v → s.heap.IsSliceOf sl vl vu .none → IsPart vl lo → IsPart vu hi → r x lo hi H Q →
   ∃ T id, typeLookup (.type T) "__getitem__" = pure (some (.builtin id)) ∧ s.TypeIs v T ∧ wpAny (model X.prog X.w) X.A (getItem v (.ref sl)) (EP X pins σ Q) X.xe s
theorem SlR.or {r r' : V → Option Int → Option Int → Hp → VK → Prop} (h : SlR X r) (h' : SlR X r') : SlR X (fun x lo hi H Q => r x lo hi H Q ∨ r' x lo hi H Q) := by
 intro pins s σ H x v vl vu lo hi sl Q I rx hs pl pu q
 rcases q with q | q
 · exact h pins s σ H x v vl vu lo hi sl Q I rx hs pl pu q
 · exact h' pins s σ H x v vl vu lo hi sl Q I rx hs pl pu q
def tSl (r : V → Option Int → Option Int → Hp → VK → Prop) (te : TE) (tl th : TO) : TE := fun σ H Q => te σ H fun x H1 => tl σ H1 fun l H2 => th σ H2 fun u H3 => r x l u H3 Q
theorem pe_slice {r : V → Option Int → Option Int → Hp → VK → Prop} (hr : SlR X r) (he : PE X e te) (hl : PO X lo tl) (hu : PO X hi th) : PE X (.Subscript e (.Slice lo hi none p2) pos) (tSl r te tl th) := by
 intro pins s σ H Q I h
 refine Subscript_ (thn (he pins s σ H _ I h) fun v s1 ⟨x, H1, I1, r1, q1⟩ => ?_)
 refine wpAny_Slice (thn (hl pins s1 σ H1 _ I1 q1) fun vl s2 ⟨l, H2, I2, pl, q2⟩ => thn (hu pins s2 σ H2 _ I2 q2) fun vu s3 ⟨u, H3, I3, pu, q3⟩ => ?_)
 rw [evalPart_none]
 refine wpAny_pure ?_
 have I4 : Inv X pins σ H3 { s3 with heap := s3.heap.push { cls := .type "slice", data := .fields #[vl, vu, .none] } } := I3.kept (t' := s3.toks) fun b ob q => Heap.get?_push_of_some _ q
 obtain ⟨T, id, hT, ht, hg⟩ := hr pins { s3 with heap := s3.heap.push { cls := .type "slice", data := .fields #[vl, vu, .none] } } σ H3 x v vl vu l u s3.heap.objs.size Q I4 r1 (Heap.IsSliceOf.new ..) pl pu q3
 show wpAny (model X.prog X.w) X.A (subscriptTail e (.Slice lo hi none p2) v (.ref s3.heap.objs.size)) (EP X pins σ Q) X.xe { s3 with heap := s3.heap.push { cls := .type "slice", data := .fields #[vl, vu, .none] } }
 exact tail_any (ops := [.ref s3.heap.objs.size, v]) ht hT hg (by with_unfolding_all rfl)
def cutV (xs : List V) (lo hi : Option Int) : List V := (xs.drop (HT.sIx xs.length 0 lo)).take (HT.sIx xs.length xs.length hi - HT.sIx xs.length 0 lo)
theorem cutV_length (xs : List V) (lo hi : Option Int) : (cutV xs lo hi).length ≤ xs.length := by
 unfold cutV
 rw [List.length_take, List.length_drop]
 omega
end
end L2

namespace L2
open PySem PySem.Spec PyProof.Rows
def ixN (n : Nat) (i : Int) : Option Nat := if 0 ≤ i then (if i < n then some i.toNat else none) else if -(n : Int) ≤ i then some (i + n).toNat else none
def atI {α : Type} (xs : List α) (i : Int) : Option α := (ixN xs.length i).bind fun j => xs[j]?
theorem ixN_seq {n : Nat} {i : Int} {j : Nat} (h : ixN n i = some j) : seqIndex? i n = some j ∧ j < n ∧ -(n : Int) ≤ i ∧ i < n := by
 unfold ixN at h
 by_cases h0 : 0 ≤ i
 · rw [if_pos h0] at h
   by_cases h1 : i < n
   · rw [if_pos h1] at h
     have e : i.toNat = j := Option.some.inj h
     exact ⟨by rw [seqIndex_of h0 h1, e], by omega, by omega, h1⟩
   · rw [if_neg h1] at h; cases h
 · rw [if_neg h0] at h
   by_cases h1 : -(n : Int) ≤ i
   · rw [if_pos h1] at h
     have e : (i + n).toNat = j := Option.some.inj h
     exact ⟨by rw [seqIndex_neg (by omega) h1, e], by omega, h1, by omega⟩
   · rw [if_neg h1] at h; cases h
theorem atI_get {α : Type} {xs : List α} {i : Int} {v : α} (h : atI xs i = some v) : ∃ j, seqIndex? i xs.length = some j ∧ xs[j]? = some v ∧ j < xs.length ∧ -(xs.length : Int) ≤ i ∧ i < xs.length := by
 unfold atI at h
 cases e : ixN xs.length i with
 | none => rw [e] at h; cases h
 | some j =>
   rw [e] at h
   obtain ⟨h1, h2, h3, h4⟩ := ixN_seq e
   exact ⟨j, h1, h, h2, h3, h4⟩
theorem atI_nat {α : Type} {xs : List α} {j : Nat} {v : α} (h : xs[j]? = some v) : atI xs (j : Int) = some v := by
 have hj : j < xs.length := (List.getElem?_eq_some_iff.mp h).1
 have e : ixN xs.length (j : Int) = some j := by
   unfold ixN
   rw [if_pos (by omega), if_pos (by omega)]; simp
 unfold atI; rw [e]; exact h
def PlainIx (b : Expr) : Prop := ∀ o i, subscripted b false o i = operate [o, i] (getItem o i)
def IxR (X : Cx) (r : R2) : Prop :=
 ∀ (value slice : Expr) (pins : List (Addr × Obj)) (s : Shared) (σ : St) (H : Hp) (x y : V) (v u : Value) (Q : VK), Inv X pins σ H s → RelV x v → RelV y u → r x y H Q →
   subscripted slice false v u = operate [v, u] (getItem v u) → wpAny (model X.prog X.w) X.A (subscriptTail value slice v u) (EP X pins σ Q) X.xe s
def MtR (X : Cx) (id : String) (r : V → List V → Hp → VK → Prop) : Prop :=
 ∀ (pins : List (Addr × Obj)) (s : Shared) (σ : St) (H : Hp) (x : V) (xs : List V) (v : Value) (us : List Value) (Q : VK), Inv X pins σ H s → RelV x v → Vals xs us → r x xs H Q →
   wpAny (model X.prog X.w) X.A (call (.builtin id) (v :: us)) (EP X pins σ Q) X.xe s
section
variable {X : Cx} {a b : Expr} {ta tb : TE} {pos : Pos}
theorem IxR.or {r r' : R2} (h : IxR X r) (h' : IxR X r') : IxR X (fun x y H Q => r x y H Q ∨ r' x y H Q) := by
 intro value slice pins s σ H x y v u Q I rx ry q hs
 rcases q with q | q
 · exact h value slice pins s σ H x y v u Q I rx ry q hs
 · exact h' value slice pins s σ H x y v u Q I rx ry q hs
theorem MtR.or {id : String} {r r' : V → List V → Hp → VK → Prop} (h : MtR X id r) (h' : MtR X id r') : MtR X id (fun x xs H Q => r x xs H Q ∨ r' x xs H Q) := by
 intro pins s σ H x xs v us Q I rx rs q
 rcases q with q | q
 · exact h pins s σ H x xs v us Q I rx rs q
 · exact h' pins s σ H x xs v us Q I rx rs q
theorem pe_ix {r : R2} (hr : IxR X r) (ha : PE X a ta) (hb : PE X b tb) (hs : PlainIx b) : PE X (.Subscript a b pos) (tOp r ta tb) := by
 intro pins s σ H Q I h
 exact Subscript_ (binT ha hb I h fun v u s2 x y H2 I2 rx ry q => hr a b pins s2 σ H2 x y v u Q I2 rx ry q (hs _ _))

def rIxL (K : PySem.W.Frag) : R2 := fun x y H Q => ∃ p xs i v, x = .ref p ∧ y = .int i ∧ SqL K H p xs ∧ atI xs i = some v ∧ Q v H
def rIxT (K : PySem.W.Frag) : R2 := fun x y H Q => ∃ p xs i v, x = .ref p ∧ y = .int i ∧ SqT K H p xs ∧ atI xs i = some v ∧ Q v H
def rIxS : R2 := fun x y H Q => ∃ z i c, x = .str z ∧ y = .int i ∧ z.length ≤ sizeLine ∧ atI z.cps.toList i = some c ∧ Q (.str ⟨#[c]⟩) H
theorem ix_list : IxR X (rIxL X.K) := by
 intro value slice pins s σ H x y v u Q I rx ry h hs
 obtain ⟨p, xs, i, z, rfl, rfl, hq, he, q⟩ := h
 cases rx
 obtain ⟨t, rfl⟩ := ry
 obtain ⟨its, r, pl, hz⟩ := I.list hq
 obtain ⟨j, h1, h2, h3, h4, h5⟩ := atI_get he
 obtain ⟨w, ew, rw'⟩ := r.get h2
 have hl := r.length
 have hn := line63
 have fin : EP X pins σ Q w s := ⟨z, H, I, rw', q⟩
 by_cases h0 : 0 ≤ i
 · have hj : i.toNat = j := by
     rw [seqIndex_of h0 h5] at h1
     exact Option.some.inj h1
   exact item_listR pl.isList h0 (by omega) (by rw [hj]; simpa using ew) fin hs
 · have hj : (i + (its.toArray.size : Int)).toNat = j := by
     rw [seqIndex_neg (by omega) h4] at h1
     rw [List.size_toArray, ← hl]
     exact Option.some.inj h1
   exact subscriptTail_builtinR (x := w) pl.isList.typeIs slot_list_getitem.lookup
     (wpAny_getItem_list_neg (Q := fun r s' => r = w ∧ EP X pins σ Q r s') pl.isList (by omega) (by rw [List.size_toArray] <;> omega) (by omega) (by rw [hj]; simpa using ew) ⟨rfl, fin⟩) hs
theorem ix_tup : IxR X (rIxT X.K) := by
 intro value slice pins s σ H x y v u Q I rx ry h hs
 obtain ⟨p, xs, i, z, rfl, rfl, hq, he, q⟩ := h
 cases rx
 obtain ⟨t, rfl⟩ := ry
 obtain ⟨its, r, pl, hz⟩ := I.tuple hq
 obtain ⟨j, h1, h2, h3, h4, h5⟩ := atI_get he
 obtain ⟨w, ew, rw'⟩ := r.get h2
 have hl := r.length
 have hn := line63
 have fin : EP X pins σ Q w s := ⟨z, H, I, rw', q⟩
 exact subscriptTail_builtinR (x := w) pl.typeIs slot_tuple_getitem.lookup
   (getItem_tuple (j := j) (Q := fun r s' => r = w ∧ EP X pins σ Q r s') pl (by omega) (by omega) (by rw [List.size_toArray, ← hl]; exact h1) (by simpa using ew) ⟨rfl, fin⟩) hs
theorem ix_str : IxR X rIxS := by
 intro value slice pins s σ H x y v u Q I rx ry h hs
 obtain ⟨z, i, c, rfl, rfl, hz, he, q⟩ := h
 obtain ⟨t, rfl⟩ := rx
 obtain ⟨t', rfl⟩ := ry
 obtain ⟨j, h1, h2, h3, h4, h5⟩ := atI_get he
 have hl : z.cps.toList.length = z.length := by simp [Str.length]
 rw [hl] at h1 h4 h5
 have hn := line63
 exact tail_any (typeIs_str s z t) slot_str_getitem.lookup (getItem_str (c := c) (by
   have e1 : decide (i < -(2 ^ 63 : Int)) = false := decide_eq_false (by omega)
   have e2 : decide (i ≥ 2 ^ 63) = false := decide_eq_false (by omega)
   rw [e1, e2, Bool.or_false]) (by rw [h1]; simpa using h2) ⟨.str ⟨#[c]⟩, H, I.tok _, ⟨_, rfl⟩, q⟩) hs
theorem Inv.lst {pins : List (Addr × Obj)} {σ : St} {H : Hp} {s : Shared} {p : Addr} {xs : List V} (I : Inv X pins σ H s) (h : H p = some (.lst xs)) :
   ∃ (its : List Value) (n : Nat), Vals xs its ∧ s.heap.get? p = some { cls := .type "list", data := .seq its.toArray n } ∧ xs.length ≤ sizeLine := by
 obtain ⟨z, its, n, r, e⟩ := I.hok p _ h
 exact ⟨its, n, r, e, z⟩
theorem slice_bounds (lo hi : Option Int) (n : Nat) : (sliceBounds lo hi none n).1 = ((HT.sIx n 0 lo : Nat) : Int) ∧ (sliceBounds lo hi none n).2.1 = ((HT.sIx n n hi : Nat) : Int) ∧ (sliceBounds lo hi none n).2.2 = 1 := by
 refine ⟨?_, ?_, rfl⟩
 · cases lo with
   | none => simp [sliceBounds, HT.sIx]
   | some i =>
     simp only [sliceBounds, HT.sIx, Option.getD_none, show (1 : Int) > 0 by decide, if_true]
     by_cases h : i < 0
     · simp only [h, if_true] <;> omega
     · simp only [h, if_false] <;> omega
 · cases hi with
   | none => simp [sliceBounds, HT.sIx]
   | some i =>
     simp only [sliceBounds, HT.sIx, Option.getD_none, show (1 : Int) > 0 by decide, if_true]
     by_cases h : i < 0
     · simp only [h, if_true] <;> omega
     · simp only [h, if_false] <;> omega
theorem slicePick_cut (its : List Value) (lo hi : Option Int) : slicePick its.toArray lo hi none = ((its.drop (HT.sIx its.length 0 lo)).take (HT.sIx its.length its.length hi - HT.sIx its.length 0 lo)).toArray := by
 obtain ⟨h1, h2, h3⟩ := slice_bounds lo hi its.toArray.size
 unfold slicePick
 rw [h1, h2, h3]
 simp only [sliceRange_one, pick_run, List.size_toArray] <;> rfl
def rSlL (K : PySem.W.Frag) : V → Option Int → Option Int → Hp → VK → Prop := fun x lo hi H Q => ∃ a xs, x = .ref a ∧ SqL K H a xs ∧ ∀ p, H p = none → Q (.ref p) (upd H p (.lst (cutV xs lo hi)))
theorem sl_list : SlR X (rSlL X.K) := by
 intro pins s σ H x v vl vu lo hi sl Q I rx hs pl pu h
 obtain ⟨a, xs, rfl, hx, q⟩ := h
 cases rx
 obtain ⟨its, r, ht, hz⟩ := I.list hx
 have hlen := r.length
 refine ⟨"list", _, slot_list_getitem.lookup, ht.isList.typeIs, ?_⟩
 refine wpAny_getItem_list_slice ht.isList hs pl pu .none (by simp) ?_ (by rw [List.size_toArray] <;> omega)
 rw [slicePick_cut, ← hlen]
 refine ⟨.ref s.heap.objs.size, _, I.laid (t' := s.toks) (o := .lst (cutV xs lo hi)) (fun b ob q => Heap.get?_push_of_some _ q) (Nat.le_refl _) ?_, rfl, q _ (I.hok.fresh (Nat.le_refl _))⟩
 exact ⟨Nat.le_trans (cutV_length xs lo hi) hz, _, 0, (r.drop (HT.sIx xs.length 0 lo)).take (HT.sIx xs.length xs.length hi - HT.sIx xs.length 0 lo), Heap.get?_push_size _ rfl⟩
def flatV : V → Bool
 | .non => true
 | .bl _ => true
 | .int _ => true
 | .str _ => true
 | _ => false
def eqV : V → V → Bool
 | .non, .non => true
 | .bl a, .bl b => a == b
 | .bl a, .int b => (if a then 1 else 0) == b
 | .int a, .bl b => a == (if b then 1 else 0)
 | .int a, .int b => a == b
 | .str a, .str b => a == b
 | _, _ => false
theorem eqAt_V {A : Around} {s : Shared} {y x : V} {u v : Value} (ry : RelV y u) (rx : RelV x v) (fy : flatV y = true) (fx : flatV x = true) : SeqAt.EqAt A s u v (eqV y x) := by
 cases y with
 | non =>
   cases ry
   cases x with
   | non => cases rx; exact SeqAt.EqAt.same _
   | bl b => cases rx; exact SeqAt.EqAt.none_bool b
   | int b => obtain ⟨t, rfl⟩ := rx; exact SeqAt.EqAt.none_int b t
   | str b => obtain ⟨t, rfl⟩ := rx; exact SeqAt.EqAt.none_str b t
   | _ => exact absurd (show false = true from fx) Bool.false_ne_true
 | bl a =>
   cases ry
   cases x with
   | non => cases rx; exact SeqAt.EqAt.bool_none a
   | bl b => cases rx; exact SeqAt.EqAt.bool_bool a b
   | int b => obtain ⟨t, rfl⟩ := rx; exact SeqAt.EqAt.bool_int a b t
   | str b => obtain ⟨t, rfl⟩ := rx; exact SeqAt.EqAt.bool_str a b t
   | _ => exact absurd (show false = true from fx) Bool.false_ne_true
 | int a =>
   obtain ⟨t', rfl⟩ := ry
   cases x with
   | non => cases rx; exact SeqAt.EqAt.int_none a t'
   | bl b => cases rx; exact SeqAt.EqAt.int_bool a t' b
   | int b => obtain ⟨t, rfl⟩ := rx; exact SeqAt.EqAt.int_int a t' b t
   | str b => obtain ⟨t, rfl⟩ := rx; exact SeqAt.EqAt.int_str a t' b t
   | _ => exact absurd (show false = true from fx) Bool.false_ne_true
 | str a =>
   obtain ⟨t', rfl⟩ := ry
   cases x with
   | non => cases rx; exact SeqAt.EqAt.str_none a t'
   | bl b => cases rx; exact SeqAt.EqAt.str_bool a t' b
   | int b => obtain ⟨t, rfl⟩ := rx; exact SeqAt.EqAt.str_int a t' b t
   | str b => obtain ⟨t, rfl⟩ := rx; exact SeqAt.EqAt.str_str a t' b t
   | _ => exact absurd (show false = true from fx) Bool.false_ne_true
 | _ => exact absurd (show false = true from fy) Bool.false_ne_true
theorem op_notIn_str : OpR X (compareOp .NotIn) (fun x y H Q => ∃ i j, x = .str i ∧ y = .str j ∧ Q (.bl (!(!(Builtin.Str.occurrences j i 0 j.length 1).isEmpty))) H) := by
 intro pins s σ H x y v u Q I rx ry h
 obtain ⟨i, j, rfl, rfl, q⟩ := h
 obtain ⟨t, rfl⟩ := rx
 obtain ⟨t', rfl⟩ := ry
 exact notIn_str ⟨.bl _, H, I, rfl, q⟩
theorem call_len_seq : CallR X (.builtin "len") (fun xs H Q => ∃ p ys, xs = [.ref p] ∧ (SqL X.K H p ys ∨ SqT X.K H p ys) ∧ Q (.int ys.length) H) := by
 intro pins s σ H xs us Q I r h
 obtain ⟨p, ys, rfl, hq, q⟩ := h
 obtain ⟨u, rfl, rx⟩ := vals1 r
 cases rx
 have hn := line63
 rcases hq with hq | hq
 · obtain ⟨its, r', pl, hz⟩ := I.list hq
   have hlen := r'.length
   exact Calls.call_len_list pl.isList (by simp only [List.size_toArray] <;> omega) ⟨.int ys.length, H, I.tok _, ⟨s.toks + 1, by rw [List.size_toArray, hlen]⟩, q⟩
 · obtain ⟨its, r', pl, hz⟩ := I.tuple hq
   have hlen := r'.length
   exact len_tuple pl (by simp only [List.size_toArray] <;> omega) ⟨.int ys.length, H, I.tok _, ⟨s.toks + 1, by rw [List.size_toArray, hlen]⟩, q⟩
theorem call_len_str : CallR X (.builtin "len") (fun xs H Q => ∃ z, xs = [.str z] ∧ z.length ≤ sizeLine ∧ Q (.int z.length) H) := by
 intro pins s σ H xs us Q I r h
 obtain ⟨z, rfl, hz, q⟩ := h
 obtain ⟨u, rfl, t, rfl⟩ := vals1 r
 have hn := line63
 exact len_str (by omega) ⟨.int z.length, H, I.tok _, ⟨_, rfl⟩, q⟩
theorem CallR.or {f : Value} {r r' : List V → Hp → VK → Prop} (h : CallR X f r) (h' : CallR X f r') : CallR X f (fun xs H Q => r xs H Q ∨ r' xs H Q) := by
 intro pins s σ H xs us Q I rs q
 rcases q with q | q
 · exact h pins s σ H xs us Q I rs q
 · exact h' pins s σ H xs us Q I rs q
def tyV (K : PySem.W.Frag) (T : String) (x : V) (H : Hp) : Prop := match x with
 | .str _ => T = "str"
 | .int _ => T = "int"
 | .ref p => (T = "list" ∧ ∃ xs, SqL K H p xs) ∨ (T = "tuple" ∧ ∃ o, K.lookup p = some o ∧ o.cls = .type "tuple" ∧ o.dict = none) ∨
     (T = "dict" ∧ ((∃ kvs, H p = some (.dK kvs)) ∨ ∃ kvs, H p = some (.dT kvs))) ∨ (T = "set" ∧ ∃ S n, H p = some (.set S n))
 | _ => False
theorem tyV_is {pins : List (Addr × Obj)} {σ : St} {H : Hp} {s : Shared} {T : String} {x : V} {v : Value} (I : Inv X pins σ H s) (r : RelV x v) (ty : tyV X.K T x H) :
   s.TypeIs v T ∧ ∀ a, v = .ref a → ∃ ob, s.heap.get? a = some ob ∧ ob.dict = none := by
 cases x with
 | str z =>
   obtain ⟨t, rfl⟩ := r
   cases (show T = "str" from ty)
   exact ⟨typeIs_str s z t, fun _ e => nomatch e⟩
 | int i =>
   obtain ⟨t, rfl⟩ := r
   cases (show T = "int" from ty)
   exact ⟨typeIs_int s i t, fun _ e => nomatch e⟩
 | ref p =>
   cases r
   rcases ty with ⟨rfl, xs, hq⟩ | ⟨rfl, o, hk, hc, hd⟩ | ⟨rfl, hk⟩ | ⟨rfl, S, n, hk⟩
   · obtain ⟨its, _, pl, _⟩ := I.list hq
     refine ⟨pl.isList.typeIs, fun a e => ?_⟩
     cases e
     obtain ⟨o, n, e, c, hd, _⟩ := pl
     exact ⟨o, e, hd⟩
   · refine ⟨⟨o, I.kIn p o hk, hc⟩, fun a e => ?_⟩
     cases e
     exact ⟨o, I.kIn _ o hk, hd⟩
   · have z : ∃ o, s.heap.get? p = some o ∧ o.ExactDict := by
       rcases hk with ⟨kvs, hk⟩ | ⟨kvs, hk⟩
       · obtain ⟨_, _, _, _, o, _, _, e, ex, _⟩ := I.hok p _ hk
         exact ⟨o, e, ex⟩
       · obtain ⟨_, _, _, _, o, _, _, e, ex, _⟩ := I.hok p _ hk
         exact ⟨o, e, ex⟩
     obtain ⟨o, e, ex⟩ := z
     refine ⟨⟨o, e, ex.1⟩, fun a e2 => ?_⟩
     cases e2
     exact ⟨o, e, ex.2.1⟩
   · obtain ⟨o, _, _, _, e, ex, _⟩ := I.hok p _ hk
     refine ⟨⟨o, e, ex.1⟩, fun a e2 => ?_⟩
     cases e2
     exact ⟨o, e, ex.2.1⟩
 | _ => exact False.elim ty
def tBM (K : PySem.W.Frag) (T : String) (r : V → List V → Hp → VK → Prop) (to : TE) (t : TA) : TE := fun σ H Q => to σ H fun x H1 => tyV K T x H1 ∧ t σ H1 fun xs H2 => r x xs H2 Q
variable {o e : Expr} {es : List Expr} {to : TE} {t : TA} {name : Str} {apos cpos : Pos} {T id : String} {r : V → List V → Hp → VK → Prop}
theorem pe_bm (pa : PlainAttrs T) (slot : Slot T name id) (hty : typeOf (.builtin id) = pure (.type "method_descriptor")) (hm : MtR X id r) (ho : PE X o to) (ha : PA X (e :: es) t)
   (hbase : attributeBase o name X.env (eval o X.env) = eval o X.env := by rfl)
   (hfew : ((backTo cpos (starEach (e :: es) X.env)).all (fun x => !x.1) && (backToKw cpos (keywordEach [] X.env)).all (fun x => x.1.isSome)
     && decide ((e :: es).length + ([] : List Keyword).length + (if ([] : List Keyword).isEmpty then 0 else 1) < 30)) = true := by rfl)
   (hline : (apos.endLine == cpos.line) = true := by rfl) (hs : starEach (e :: es) X.env = (false, eval e X.env) :: starEach es X.env := by rfl) (hplain : (backTo cpos (starEach es X.env)).any (·.1) = false := by rfl) :
   PE X (.Call (.Attribute o name apos) (e :: es) [] cpos) (tBM X.K T r to t) := by
 intro pins s σ H Q I h
 refine wpAny_Call_method_late hbase hfew hline rfl (thn (ho pins s σ H _ I h) fun v s1 ⟨x, H1, I1, r1, ty, q1⟩ => ?_)
 obtain ⟨h1, h2⟩ := tyV_is I1 r1 ty
 refine ⟨T, id, pa, slot, hty, h1, h2, ?_⟩
 have hA := ha cpos pins s1 σ H1 _ I1 q1
 rw [hs] at hA ⊢
 refine Calls.callWith_builtin (by show (false || (backTo cpos (starEach es X.env)).any (·.1)) = false; rw [hplain] <;> rfl) (Calls.evalArgs_plain ?_)
 exact thn hA fun us s2 ⟨vs, H2, I2, r2, q2⟩ => hm pins s2 σ H2 x vs v us Q I2 r1 r2 q2
/- xs.append(e), list.index on a module's tuple .. are MtR facts of 06m -/
end
end L2

namespace L2
open PySem PySem.Spec PyProof.Rows

def MtM (X : Cx) (id : String) (r : V → List V → Hp → VK → Prop) : Prop :=
 ∀ (pins : List (Addr × Obj)) (s : Shared) (σ : St) (H : Hp) (x : V) (xs : List V) (v : Value) (us : List Value) (Q : VK), Inv X pins σ H s → RelV x v → Vals xs us → r x xs H Q →
   wpAny (model X.prog X.w) X.A (call (.builtin id) (v :: us)) (EP X pins σ Q) X.xe s
theorem Vals.one : ∀ {x : V} {us : List Value}, Vals [x] us → ∃ u, us = [u] ∧ RelV x u
 | _, _, .cons r .nil => ⟨_, rfl, r⟩
theorem Vals.zero : ∀ {us : List Value}, Vals [] us → us = []
 | _, .nil => rfl
theorem Vals.reverse {xs : List V} {us : List Value} (h : Vals xs us) : Vals xs.reverse us.reverse := by
 induction h with
 | nil => exact .nil
 | cons r t ih => rw [List.reverse_cons, List.reverse_cons]; exact Vals.append ih (.cons r .nil)
section
variable {X : Cx} {pins : List (Addr × Obj)} {σ : St} {H : Hp} {s : Shared} {l b : Addr} {xs ys zs : List V}
theorem Inv.lset {its its' : List Value} {n : Nat} {f : Array Value → Array Value} {t' : Nat} (I : Inv X pins σ H s) (hH : H l = some (.lst xs))
   (e : s.heap.get? l = some { cls := .type "list", data := .seq its.toArray n }) (hf : f its.toArray = its'.toArray) (hv : Vals ys its') (hz : ys.length ≤ sizeLine) :
   Inv X pins σ (upd H l (.lst ys)) { s with heap := s.heap.update l (Obj.mapSeq f), toks := t' } := by
 have q := PySem.IsL.update e f
 rw [hf] at q
 refine I.write (x := l) (e := l) (by rw [hH]; exact trivial) (.inl rfl) (fun b' u hb hu => (Heap.get?_update_other s.heap (Obj.mapSeq f) (Ne.symm hb)).trans hu) ⟨_, q⟩ ?_
 exact ⟨hz, its', _, hv, q⟩
theorem Inv.lnew {its : List Value} {t' : Nat} (I : Inv X pins σ H s) (hv : Vals ys its) (hz : ys.length ≤ sizeLine) :
   Inv X pins σ (upd H s.heap.objs.size (.lst ys)) { s with heap := s.heap.push { cls := .type "list", data := .seq its.toArray }, toks := t' } :=
 I.laid (fun _ _ q => Heap.get?_push_of_some _ q) (Nat.le_refl _) ⟨hz, its, 0, hv, Heap.get?_push_size _ rfl⟩
theorem Inv.fresh (I : Inv X pins σ H s) : H s.heap.objs.size = none := I.hok.fresh (Nat.le_refl _)
theorem Inv.lstM (I : Inv X pins σ H s) (hH : H l = some (.lst xs)) : xs.length ≤ sizeLine ∧ ∃ (its : List Value) (n : Nat), Vals xs its ∧ xs.length = its.length ∧ s.heap.get? l = some { cls := .type "list", data := .seq its.toArray n } := by
 obtain ⟨z, its, n, r, e⟩ := I.hok l _ hH
 exact ⟨z, its, n, r, r.length, e⟩

theorem notLongL {n : Nat} (h : n ≤ sizeLine) : Builtin.List.listTooLong n = false := by
 unfold Builtin.List.listTooLong
 exact decide_eq_false (by omega)
end

section
variable {X : Cx}
def rAppend : V → List V → Hp → VK → Prop := fun x vs H Q => ∃ l xs y, x = .ref l ∧ vs = [y] ∧ H l = some (.lst xs) ∧ xs.length < sizeLine ∧ Q .non (upd H l (.lst (xs ++ [y])))
theorem mt_append : MtM X "list.append" rAppend := by
 intro pins s σ H x vs v us Q I rx rv h
 obtain ⟨l, xs, y, rfl, rfl, hH, hz, q⟩ := h
 cases rx
 obtain ⟨u, rfl, ru⟩ := rv.one
 obtain ⟨z, its, n, r, hl, e⟩ := I.lstM hH
 refine call_meets F.slot_list_append ⟨_, e, rfl⟩ F.entry_list_append (F.args_list_append_2 _ _) (PySem.list_append l its.toArray n u (by rw [List.size_toArray]; omega)) ⟨e, ?_⟩
 refine ⟨.non, _, I.lset (its' := its ++ [u]) hH e (by simp) (r.append (.cons ru .nil)) ?_, rfl, q⟩
 rw [List.length_append, List.length_singleton]
 omega

def rExtend : V → List V → Hp → VK → Prop := fun x vs H Q => ∃ l b xs zs, x = .ref l ∧ vs = [.ref b] ∧ H l = some (.lst xs) ∧ H b = some (.lst zs) ∧ xs.length + zs.length ≤ sizeLine ∧ Q .non (upd H l (.lst (xs ++ zs)))
theorem mt_extend : MtM X "list.extend" rExtend := by
 intro pins s σ H x vs v us Q I rx rv h
 obtain ⟨l, b, xs, zs, rfl, rfl, hH, hB, hz, q⟩ := h
 cases rx
 obtain ⟨u, rfl, ru⟩ := rv.one
 cases ru
 obtain ⟨z, its, n, r, hl, e⟩ := I.lstM hH
 obtain ⟨z2, its2, n2, r2, hl2, e2⟩ := I.lstM hB
 have hsz : its.toArray.size + its2.toArray.size ≤ sizeLine := by rw [List.size_toArray, List.size_toArray]; omega
 have hlong : ¬ (!its.toArray.isEmpty && Builtin.List.listTooLong (its.toArray.size + its2.toArray.size)) = true := by
   rw [notLongL hsz, Bool.and_false]
   exact Bool.false_ne_true
 refine call_meets F.slot_list_extend ⟨_, e, rfl⟩ F.entry_list_extend (F.args_list_extend_2 _ _)
   (AutoSeq1.list_extend_list_list_0 l its.toArray n b its2.toArray n2 hlong (by rw [List.size_toArray]; omega) (by omega)) ⟨e, e2, ?_⟩
 refine ⟨.non, _, I.lset (its' := its ++ its2) hH e (by simp) (r.append r2) ?_, rfl, q⟩
 rw [List.length_append]
 omega

def rCat : R2 := fun x y H Q => ∃ l b xs zs, x = .ref l ∧ y = .ref b ∧ H l = some (.lst xs) ∧ H b = some (.lst zs) ∧ xs.length + zs.length ≤ sizeLine ∧ ∀ p, H p = none → Q (.ref p) (upd H p (.lst (xs ++ zs)))
theorem op_cat : OpR X (binaryOp .Add) rCat := by
 intro pins s σ H x y v u Q I rx ry h
 obtain ⟨l, b, xs, zs, rfl, rfl, hH, hB, hz, q⟩ := h
 cases rx
 cases ry
 obtain ⟨z, its, n, r, hl, e⟩ := I.lstM hH
 obtain ⟨z2, its2, n2, r2, hl2, e2⟩ := I.lstM hB
 refine PySem.P.add_list e e2 ?_ (by rw [List.size_toArray, List.size_toArray]; omega)
 have ea : its.toArray ++ its2.toArray = (its ++ its2).toArray := by simp
 rw [ea]
 exact ⟨.ref _, _, I.lnew (t' := s.toks) (r.append r2) (by rw [List.length_append]; omega), rfl, q _ I.fresh⟩
end
section
variable {prog : Program} {w : World} {A : Around} {E : Value → Shared → Prop} {s : Shared}
theorem bounds_run {a c n : Nat} (hac : a ≤ c) (hc : c ≤ n) : sliceBounds (some (a : Int)) (some (c : Int)) none n = ((a : Int), (c : Int), 1) := by
 simp only [sliceBounds, Option.getD_none]
 have h1 : ¬ ((a : Int) < 0) := by omega
 have h2 : ¬ ((c : Int) < 0) := by omega
 simp only [h1, h2, if_false, show (1 : Int) > 0 by decide, if_true]
 congr 1
 · omega
 · congr 1; omega
set_option maxRecDepth 100000 in
theorem setItem_slice {l b sl : Addr} {items new : Array Value} {n n2 : Nat} {vl vu : Value} {a c : Nat} {Q : Unit → Shared → Prop}
   (e : s.heap.get? l = some { cls := .type "list", data := .seq items n }) (e2 : s.heap.get? b = some { cls := .type "list", data := .seq new n2 }) (hne : l ≠ b)
   (hs : s.heap.IsSliceOf sl vl vu .none) (pl : IsPart vl (some (a : Int))) (pu : IsPart vu (some (c : Int))) (hac : a ≤ c) (hc : c ≤ items.size)
   (hsz : items.size + new.size ≤ sizeLine) (h : Q () { s with heap := s.heap.update l (Obj.mapSeq fun xs => xs.extract 0 a ++ new ++ xs.extract c xs.size) }) :
   wpAny (model prog w) A (setItem (.ref l) (.ref sl) (.ref b)) Q E s := by
 have hl : s.heap.IsList l items := PySem.IsL.isList e
 have hb : s.heap.IsList b new := PySem.IsL.isList e2
 obtain ⟨os, hos, hcs, hds⟩ := id hs
 have hTs : s.TypeIs (.ref sl) "slice" := ⟨os, hos, hcs⟩
 have hstep : ¬ ((rawPart none == rawInt 0) = true) := Bool.false_ne_true
 have hsame : Builtin.List.listSameRef (.ref l) (.ref b) = false := by
   unfold Builtin.List.listSameRef
   exact beq_eq_false_iff_ne.mpr hne
 have hmax : (max (a : Int) (c : Int)).toNat = c := by omega
 have hz' : ((fun xs : Array Value => xs.extract 0 a ++ new ++ xs.extract c xs.size) items).size ≤ sizeLine + 1 := by
   simp only [Array.size_append, Array.size_extract]
   omega
 unfold setItem
 try with_reducible refine wpAny_holding ?_
 first | refine wpAny_bind (wpAny_pure ?_) | skip
 refine wpAny_bind (wpAny_sequenceKey hl.typeIs (by decide) ?_)
 refine wpAny_bind (wpAny_callSpecial?_slot (name := Str.ofString "__setitem__") hl.typeIs slot_list_setitem
   (wpAny_call_entry slot_list_setitem hl.typeIs entry_list_setitem ?_ (args_list_setitem _ _ _)))
 show wpAny _ _ (Builtin.List.listSubscript? (.ref sl) >>= _) _ _ s
 refine wpAny_bind ?_
 unfold Builtin.List.listSubscript?
 refine wpAny_bind (wpAny_specialOf hTs slice_no_index ?_)
 simp only [Option.isNone_none, if_true]
 refine wpAny_pure ?_
 show wpAny _ _ (typeOf (.ref sl) >>= _) _ _ s
 refine wpAny_bind (wpAny_typeOf hTs ?_)
 first
   | rw [if_neg (by decide)]
   | refine PySem.W.KFB.if_not (by decide) ?_
 rw [listSliceParts_eq]
 refine wpAny_bind (wpAny_bind (wpAny_field hos hds (x := .none) rfl (wpAny_bind (wpAny_listPart .none ?_))))
 rw [if_neg hstep]
 refine wpAny_bind (wpAny_field hos hds (x := vl) rfl (wpAny_bind (wpAny_listPart pl ?_)))
 refine wpAny_bind (wpAny_field hos hds (x := vu) rfl (wpAny_bind (wpAny_listPart pu (wpAny_pure ?_))))
 first
   | simp only [hsame, Bool.false_eq_true, if_false]
   | refine PySem.W.KFB.if_not hsame ?_
   | (dsimp only
      rw [if_neg (by rw [hsame]; exact Bool.false_ne_true)])
 refine wpAny_bind (m := Builtin.List.listAllItems (.ref b) "must assign iterable to extended slice") ?_
 unfold Builtin.List.listAllItems
 refine wpAny_bind (wpAny_typeOf hb.typeIs ?_)
 first
   | refine PySem.W.KFB.if_so (by decide) ?_
   | rw [if_pos (by decide)]
   | simp only [beq_self_eq_true, Bool.true_or, if_true]
 unfold Builtin.List.listItems
 refine wpAny_bind (wpAny_seqItems e2 rfl (wpAny_pure ?_))
 refine wpAny_bind (wpAny_bind (wpAny_seqItems e rfl (wpAny_pure ?_)))
 refine wpAny_bind (wpAny_of_eq ((sliceIndices_raw (some (a : Int)) (some (c : Int)) none items.size (by simp)).trans (congrArg (pure : Int × Int × Int → Sem (Int × Int × Int)) (bounds_run hac hc))) ?_)
 show wpAny _ _ (if ((1 : Int) == 1) = true then _ else _) _ _ s
 rw [if_pos (by decide)]
 refine wpAny_bind (wpAny_rule ?_)
 first
   | simp only [notLongL hsz, Bool.false_eq_true, if_false]
   | refine PySem.W.KFB.if_not (notLongL hsz) ?_
 first | refine wpAny_bind (wpAny_pure ?_) | skip
 show wpAny _ _ (updateSeq l (fun xs => xs.extract 0 ((a : Int)).toNat ++ new ++ xs.extract (max (a : Int) (c : Int)).toNat xs.size) >>= _) _ _ s
 rw [hmax, Int.toNat_natCast]
 refine wpAny_bind (wpAny_updateSeq (hz := Nat.le_trans (Nat.le_add_right _ _) hsz) (_hz' := hz') e rfl ?_)
 refine wpAny_bind (wpAny_letGo ?_)
 first
   | exact wpAny_bind (wpAny_pure (wpAny_pure ⟨.none, rfl, wpAny_pure h⟩))
   | exact wpAny_pure ⟨.none, rfl, wpAny_pure h⟩
end

section
variable {X : Cx}
end
end L2

namespace Att
open PySem PySem.W PySem.Calls PyProof.Rows
theorem ints_of_wellAll {P : Params} {h : Heap} : ∀ (ns : List Int) (vs : List Value), WellAll P h vs (ns.map WData.int) → IntsAre vs ns := by
 intro ns
 induction ns with
 | nil =>
   intro vs w
   rw [List.map_nil] at w
   cases w
   exact .nil
 | cons n ns ih =>
   intro vs w
   rw [List.map_cons] at w
   cases w with
   | cons a b =>
     cases a
     exact .cons _ _ (ih _ b)

theorem script_of {l : OpenLaw} {n : Nat} (hn : l.most = some n) {P : Params} {h : Heap} {args : List WData} {vals : List Value}
   (hpre : l.row.toRowW.claim.pre args = true) (hwl : WellAll P h vals args) :
   ∃ a vs ns, vals = [Value.ref a] ∧ args = [WData.list (ns.map WData.int)] ∧ h.get? a = some { cls := .type "list", data := .seq vs.toArray } ∧ IntsAre vs ns ∧ ns.length ≤ n := by
 have hsh : WShape.hasAll [] args [.list .int] = true := (pre_splitW hpre).1
 have hc : l.pre.holds [] { args := args } = true := (pre_splitW hpre).2
 obtain ⟨d, r, rfl, h1, h2⟩ := hasAllW_cons hsh
 obtain rfl := hasAllW_nil h2
 obtain ⟨xs, rfl, h3⟩ := hasW_list h1
 obtain ⟨ns, rfl⟩ := items_int h3
 have hlen : ns.length ≤ n := by
   unfold OpenLaw.pre at hc
   have h4 : (WTm.not (.lt (.lit (.int (n : Int))) (.len (.arg 0)))).holds [] { args := [.list (ns.map .int)] } = true := by
     have h4 := (holds_andW hc).1
     rw [hn] at h4
     exact h4
   have h5 := condW_of h4 (w_not (w_lt w_lit (w_len_list (w_arg rfl))))
   rw [List.length_map] at h5
   refine Nat.le_of_not_lt fun q => ?_
   have q' : (n : Int) < ((ns.length : Nat) : Int) := by omega
   first
     | (rw [decide_eq_true q'] at h5; exact absurd h5 (by decide))
     | (simp at h5; omega)
 cases hwl with
 | cons w1 w2 =>
   cases w2
   cases w1 with
   | list ho hall => exact ⟨_, _, ns, rfl, rfl, ho, ints_of_wellAll ns _ hall, hlen⟩

theorem post_true (l : OpenLaw) (args : List WData) : l.row.toRowW.claim.post args (.bool true) args = true :=
 postW_of (r := l.row.toRowW) (X := (true == true))
   (show WShape.has [] (.bool true) .bool = true by first | rfl | decide | simp [WShape.has, WShape.arms, WShape.armsAll])
   (show (WTm.eq .res (.lit (.bool true))).value [] { args := args, res := some (.bool true), after := args } = some (.bool (true == true)) from w_eq_bool (w_res rfl) w_lit) rfl
theorem attach_call {l : OpenLaw} {n : Nat} {q : Program} {loose : List Str} {XP : (Str → Option Value) → Heap → Prop} {YP : World → Heap → Prop} {d : DefRec}
   (hn : l.most = some n) (hdf : d.params.defaults = [])
   (call : ∀ (w : World) (s₀ s₁ : Shared) (mg mb : Str → Option Value) (fa : Addr) (o : Obj) (pm cd doc : Value) (a : Addr) (vs : List Value) (ns : List Int),
     Ground q loose [] XP w s₀ mg mb s₁.heap → YP w s₁.heap →
     s₁.heap.get? fa = some o → o.data = .func (docDef d.name d.params d.body d.scope pm cd doc) → s₁.heap.CodeRec cd d.name → mg d.name = some (.ref fa) →
     s₁.heap.get? a = some { cls := .type "list", data := .seq vs.toArray } → IntsAre vs ns → ns.length ≤ n → s₁.gens = #[] →
     codeAny (model l.prog w) callerA (.call (.ref fa) ⟨[.ref a], []⟩) (fun r s' => r = .ok (.ret (.bool true)) ∧ OldK s₁.heap s'.heap ∧ s'.os = s₁.os ∧ AllBare s'.gens) s₁) :
   WalkO q loose XP YP l.row.toRowW d [] (fun f vs => PySem.call f vs) := by
 intro w s₀ s₁ mg mb G Y fa o pm cd doc dV kV ho hd hcd hD hmg hg args vals as hpre hlay hrd hwl hlo
 obtain rfl : dV = .none := Dflts.none hD hdf
 obtain rfl : kV = .none := Dflts.noKw hD
 obtain ⟨a, vs, ns, rfl, rfl, hobj, hints, hlen⟩ := script_of hn hpre hwl
 refine enter_call (codeAny_mono (call w s₀ s₁ mg mb fa o pm cd doc a vs ns G Y ho (fd_plain hd) hcd hmg hobj hints hlen hg) fun r s' hq => ?_)
 obtain ⟨rfl, h2, h3, h4⟩ := hq
 exact ⟨.inl ⟨.bool true, .bool true, [], rfl, fun _ => rfl, .bool true, post_true l _, fun _ => ⟨List.Pairwise.nil, fun _ hm => (nomatch hm)⟩⟩, h2, h3, h4⟩
section
variable {prog : Program} {w : World} {A : Around} {E : Value → Shared → Prop} {s : Shared} {K : Frag}
end
end Att

namespace L2
open PySem PySem.Spec PyProof.Rows

theorem vals_ints : ∀ {vs : List Value} {ns : List Int}, IntsAre vs ns → Vals (ns.map V.int) vs
 | _, _, .nil => .nil
 | _, _, .cons n t h => .cons ⟨t, rfl⟩ (vals_ints h)
def Only (H : Hp) : Prop := ∀ b, H b = none ∨ ∃ o xs, H b = some (.frz o (.lst xs))
theorem law_call {P : Program} {w : World} {K : PySem.W.Frag} {mg mb : Str → Option Value} {CX : CXT} {k : Nat} {fa a : Addr} {fd : FuncData} {x : Str} {sp : Sp} {s₁ : Shared} {vs : List Value} {ns : List Int}
   (KX : K.In s₁.heap) (hns : s₁.heap.Ns mainGlobals mg) (hb : s₁.heap.Ns builtinsNs mb) (hbb : ∀ x : Str, x ≠ "__name__" → mb x = bootBuiltins x) (hlim : s₁.heap.NoLimit) (hg : s₁.gens = #[])
   (ha : s₁.heap.get? a = some { cls := .type "list", data := .seq vs.toArray }) (hi : IntsAre vs ns) (hl : ns.length ≤ sizeLine) (hr : Room k callerA)
   (F : ∀ base : Heap, K.In base → base.Ns mainGlobals mg → FnOk P w K mg base CX k fa fd [x] sp) (hbind : ∀ (s : Shared) (u : Value), BindsTo s fd ⟨[u], []⟩ [(x, u)])
   (hsp : ∀ H : Hp, Only H → SqL K H a (ns.map V.int) → sp [.ref a] H (fun v _ => v = .bl true) fun _ _ _ => False)
   (hCX : ∀ H e s', CX [] H s₁ (fun _ _ _ => False) e s' → False) :
   codeAny (model P w) callerA (.call (.ref fa) ⟨[.ref a], []⟩) (fun r s' => r = .ok (.ret (.bool true)) ∧ OldK s₁.heap s'.heap ∧ s'.os = s₁.os ∧ AllBare s'.gens) s₁ := by
 have rv := vals_ints hi
 have lenV := hi.length
 -- from an abstract heap in which nothing but the script may be tracked
 have core : ∀ H : Hp, Only H → SqL K H a (ns.map V.int) → HOk P w H s₁.heap → (∀ b, H b ≠ none → b = a) → (H a ≠ none → K.lookup a = none) →
     codeAny (model P w) callerA (.call (.ref fa) ⟨[.ref a], []⟩) (fun r s' => r = .ok (.ret (.bool true)) ∧ OldK s₁.heap s'.heap ∧ s'.os = s₁.os ∧ AllBare s'.gens) s₁ := by
   intro H hO hS hok hA hK
   have base_of : ∀ {b : Addr} {o : Obj}, s₁.heap.get? b = some o → H b = none → (hidT s₁.heap H).get? b = some o := fun e n => hidT_get e n
   have noA : ∀ {b : Addr} {o : Obj} {es : Array DictEntry} {ep : Nat}, s₁.heap.get? b = some o → o.data = .dict es ep → H b = none := fun {b o es ep} e d => by
     cases q : H b with
     | none => rfl
     | some u =>
       have e' : b = a := hA b (by rw [q]; simp)
       subst e'
       rw [ha] at e; cases e
       have d' : Data.seq vs.toArray _ = Data.dict es ep := d
       cases d'
   have nsK : ∀ {b : Addr} {m : Str → Option Value}, s₁.heap.Ns b m → (hidT s₁.heap H).Ns b m := fun {b m} ⟨o, es, ep, e, d, r⟩ => ⟨o, es, ep, base_of e (noA e d), d, r⟩
   have hKb : K.In (hidT s₁.heap H) := fun b o e => base_of (KX b o e) (by
     cases q : H b with
     | none => rfl
     | some u =>
       have e' : b = a := hA b (by rw [q]; simp)
       subst e'
       rw [hK (by rw [q]; simp)] at e; cases e)
   have hM : Mod K mg (hidT s₁.heap H) := ⟨hKb, nsK hns, ⟨mb, nsK hb, hbb⟩, let ⟨mc, h1, h2⟩ := hlim; ⟨mc, nsK h1, h2⟩⟩
   have e0 : Env0 P w K mg (hidT s₁.heap H) callerA [] s₁ H := ⟨rfl, hM, fun b o e => of_hidT e, Nat.le_of_eq (hidT_size _ _), trivial, fun b hb => absurd (show b ∈ ([] : List Addr) from hb) (by simp), hok, .of_eq hg⟩
   refine codeAny_mono ((F _ hKb (nsK hns)).run callerA [] s₁ H ⟨[.ref a], []⟩ [.ref a] [.ref a] _ _ hr e0 (hbind s₁ (.ref a)) (.cons rfl .nil) (hsp H hO hS)) fun r s' h => ?_
   cases r with
   | error e => exact (hCX H e s' h).elim
   | ok fl =>
     cases fl with
     | next => exact False.elim h
     | brk => exact False.elim h
     | cont => exact False.elim h
     | ret u =>
       obtain ⟨v, H', os, bare, un, hok', r', q⟩ := h
       have q' : v = .bl true := q
       subst q'
       obtain rfl : u = Value.bool true := r'
       refine ⟨rfl, OldK.of_keep fun b o e => ?_, os, bare⟩
       cases q : H b with
       | none => exact un.keep b o e q (by intro z; exact absurd (show b ∈ ([] : List Addr) from z) (by simp)) (by simp)
       | some u =>
         rcases hO b with z | ⟨ob, xs, z⟩
         · rw [q] at z; cases z
         · have z2 := un.frzs b ob _ z
           obtain ⟨e1, _⟩ := hok b _ z
           obtain ⟨e2, _⟩ := hok' b _ z2
           rw [e] at e1; cases e1
           exact e2
 cases hk : K.lookup a with
 | some o =>
   -- the script is one of the module's own objects
   have e := KX a o hk
   rw [ha] at e
   cases e
   refine core (fun _ => none) (fun _ => .inl rfl) (.inr ⟨_, vs.toArray, _, hk, rfl, rfl, rfl, by rw [List.size_toArray, lenV]; exact hl, by simpa using rv⟩) (fun b u z => by have z' : (none : Option HO) = some u := z; cases z') (fun b z => absurd rfl z) fun z => absurd rfl z
 | none =>
   refine core (fun b => if b = a then some (.frz { cls := .type "list", data := .seq vs.toArray } (.lst (ns.map V.int))) else none) (fun b => ?_) (.inl (.inr ⟨{ cls := .type "list", data := .seq vs.toArray }, if_pos rfl⟩)) (fun b u z => ?_) (fun b z => ?_) fun _ => hk
   · by_cases hb : b = a
     · exact .inr ⟨_, _, if_pos hb⟩
     · exact .inl (if_neg hb)
   · by_cases hb : b = a
     · have z' := (if_pos hb).symm.trans z
       cases z'
       subst hb
       exact ⟨ha, by rw [List.length_map]; exact hl, vs, _, rv, ha⟩
     · have z' := (if_neg hb).symm.trans z
       cases z'
   · by_cases hb : b = a
     · exact hb
     · exact absurd (if_neg hb) z
end L2

namespace L2
open PySem PySem.Spec PyProof.Rows

abbrev KOf {K : PySem.W.Frag} {h : Heap} (_ : K.In h) : PySem.W.Frag := K
theorem walk_of {l : PySem.W.OpenLaw} {n k : Nat} {q : Program} {loose : List Str} {XP : (Str → Option Value) → Heap → Prop} {YP : World → Heap → Prop} {d : DefRec} {K : Params → PySem.W.Frag} {CX : World → CXT} {sp : World → Sp} {x : Str}
   (hn : l.most = some n) (hn2 : n ≤ sizeLine) (hdf : d.params.defaults = []) (hr : Room k callerA)
   (hY : ∀ (w : World) (h : Heap), YP w h → (K w.params).In h)
   (F : ∀ (w : World) (mg : Str → Option Value) (fa : Addr) (h : Heap), (K w.params).In h → h.Ns mainGlobals mg → mg d.name = some (.ref fa) →
     ∃ fd : FuncData, (∀ (s : Shared) (u : Value), BindsTo s fd ⟨[u], []⟩ [(x, u)]) ∧
       ∀ base : Heap, (K w.params).In base → base.Ns mainGlobals mg → FnOk l.prog w (K w.params) mg base (CX w) k fa fd [x] (sp w))
   (hsp : ∀ (w : World) (H : Hp) (a : Addr) (ns : List Int), ns.length ≤ n → Only H → SqL (K w.params) H a (ns.map V.int) → sp w [.ref a] H (fun v _ => v = .bl true) fun _ _ _ => False)
   (hCX : ∀ (w : World) (H : Hp) (s : Shared) (e : Value) (s' : Shared), CX w [] H s (fun _ _ _ => False) e s' → False) :
   PySem.W.WalkO q loose XP YP l.row.toRowW d [] (fun f vs => PySem.call f vs) := by
 refine Att.attach_call hn hdf fun w s₀ s₁ mg mb fa o pm cd doc a vs ns G Y ho hd hcd hmg hobj hints hlen hg => ?_
 have KX := hY w _ Y
 obtain ⟨fd, hb, hF⟩ := F w mg fa _ KX G.T.g hmg
 exact law_call KX G.T.g G.T.b G.T.builtins G.T.nolimit hg hobj hints (Nat.le_trans hlen hn2) hr hF hb (fun H hO hS => hsp w H a ns hlen hO hS) fun H e s' => hCX w H s₁ e s'
end L2

/- THE LAST THEOREM (shape; LID, My.* are yours):
   My.Adr: a structure of the addresses that your layer names (classes, functions); My.Txt K t: a structure (Prop) of the equations over K;
   My.txt_mk : {K} {implicit addresses ..} (e1 : nsIn K mainGlobals "law" = some (some (.ref f))) (e2 : K.lookup f = some ⟨oc, od, .func (fnOf "law" "law" params body scope dV kV doc pm an cdv ct), sl⟩) (e3 : codeIn K cdv "law" = true) .. : ∃ t, My.Txt K t

set_option maxRecDepth 100000 in
set_option maxHeartbeats 0 in
theorem PySem.Challenge.cw_LID_holds : PySem.Challenge.rw_LID.Holds := by
  w_on; o_law; k_head; (case hw => w_witness2)
  k_fill
  refine L2.walk_of (l := PySem.Challenge.rw_LID) (n := 63) (k := 40) (x := "script") (CX := fun w => ..) (sp := fun _ => My.sp_law) rfl (by decide) rfl ⟨rfl, by decide, by decide⟩ (fun w h Y => PySem.W.kIn_of Y) ?F ?S ?C
  case F =>
    intro w mg fa h KX G hmg
    have T : ∃ t, My.Txt (L2.KOf KX) t := by
      dsimp only [L2.KOf]                          -- K must stand as «<heap const> w.params» for k_is
      refine' My.txt_mk ?e1 ?e2 ?e3 ..
      (case e1 => PySem.W.k_is)                    -- in the order: a name -> its address -> its object -> its parts
      (case e2 => PySem.W.k_is)
      ..
    obtain ⟨t, T⟩ := T
    have e0 := hmg.symm.trans (PySem.W.mg_of KX G T.law)
    cases e0                                       -- fa is the law's own address
    exact ⟨_, fun s u => .of_eq rfl, fun base kb nb => My.law_fn T kb nb⟩     -- if «.of_eq rfl» comes too early: refine' ⟨_, ?b, fun base kb nb => My.law_fn T kb nb⟩; exact fun s u => .of_eq rfl
  case S => exact fun w H a ns hl hO hS => ..
  case C => exact ..
(the tactic k_is has no namespace: write k_is) -/
namespace L2
open PySem PySem.Spec PyProof.Rows
def inClass (s : Stmt) (j : Nat) : Stmt := match s with
 | .ClassDef _ _ _ body _ _ _ _ _ _ _ => body.getD j (.Pass ⟨0, 0, 0, 0⟩)
 | _ => .Pass ⟨0, 0, 0, 0⟩
def defArgs (s : Stmt) : Arguments := match s with
 | .FunctionDef _ a _ _ _ _ _ _ _ _ => a
 | _ => { posonlyargs := [], args := [], vararg := none, kwonlyargs := [], kw_defaults := [], kwarg := none, defaults := [] }
def defBody (s : Stmt) : List Stmt := match s with
 | .FunctionDef _ _ b _ _ _ _ _ _ _ => b
 | _ => []
def defScope (s : Stmt) : Scope := match s with
 | .FunctionDef _ _ _ _ _ _ sc _ _ _ => sc
 | _ => { kind := .function, names := [], isGenerator := false, isCoroutine := false }
abbrev CX0 : CXT := fun _ _ _ _ _ _ => False
abbrev E0 : XK := fun _ _ _ => False
theorem pass0 {X : Cx} : Passes CX0 X E0 := fun _ _ _ _ _ _ _ h => h.elim
structure Fun (K : PySem.W.Frag) (x qual : Str) (st : Stmt) (f : Addr) (fd : FuncData) : Prop where
 ex : ∃ (oc : Value) (od : Option Addr) (kV doc pm : Value) (an : Option Addr) (cdv ct : Value) (osl : Array (Option Value)),
   fd = PySem.W.fnOf x qual (defArgs st) (defBody st) (defScope st) .none kV doc pm an cdv ct ∧ K.lookup f = some ⟨oc, od, .func fd, osl⟩ ∧ PySem.W.codeIn K cdv qual = true
 kp : PySem.W.keepIn K (.ref f) = true
section
variable {P : Program} {w : World} {K : PySem.W.Frag} {mg : Str → Option Value} {base : Heap}
theorem Fun.ok {x qual : Str} {st : Stmt} {f : Addr} {fd : FuncData} {N ps : List Str} {k : Nat} {sp : Sp} (F : Fun K x qual st f fd) (S : FnScope N ps (defScope st)) (len : ∀ vs H Q E, sp vs H Q E → vs.length = ps.length)
   (hbody : ∀ (cdv : Value) (A : Around) (outer : List Env) (s : Shared) (H : Hp) (vs : List V) (Q : VK) (E : XK), Room k (A.deeper (envOfC qual (defScope st) s.heap.objs.size f cdv)) → sp vs H Q E →
     ∃ t, PSs (cxOf CX0 P w K mg base N qual (defScope st) f cdv A outer s H E).nox (defBody st) t ∧ t { nx := fun _ H' => Q .non H', rt := Q } (start N vs) H) : FnOk P w K mg base CX0 (k + 1) f fd ps sp := by
 obtain ⟨oc, od, kV, doc, pm, an, cdv, ct, osl, rfl, lk, hcd⟩ := F.ex
 refine fn_of lk hcd S len fun A outer s H vs Q E hr hsp => ?_
 obtain ⟨t, h, q⟩ := hbody cdv A outer s H vs Q E hr hsp
 exact ⟨t, h.nox, q⟩
theorem Fun.binds {x qual : Str} {st : Stmt} {f : Addr} {fd : FuncData} {ps : List Str} (F : Fun K x qual st f fd)
   (h : ∀ (kV doc pm : Value) (an : Option Addr) (cdv ct : Value) (us : List Value), us.length = ps.length → bindArgs (PySem.W.fnOf x qual (defArgs st) (defBody st) (defScope st) .none kV doc pm an cdv ct) ⟨us, []⟩ = pure (ps.zip us)) : Binds K fd ps [] := by
 obtain ⟨oc, od, kV, doc, pm, an, cdv, ct, osl, rfl, lk, hcd⟩ := F.ex
 exact .all (h kV doc pm an cdv ct)
theorem fun_mk {x qual : Str} {st : Stmt} {f : Addr} {oc : Value} {od an : Option Addr} {osl : Array (Option Value)} {kV doc pm cdv ct : Value} (l : K.lookup f = some ⟨oc, od, .func (PySem.W.fnOf x qual (defArgs st) (defBody st) (defScope st) .none kV doc pm an cdv ct), osl⟩)
 (c : PySem.W.codeIn K cdv qual = true) (k : PySem.W.keepIn K (.ref f) = true) : Fun K x qual st f (PySem.W.fnOf x qual (defArgs st) (defBody st) (defScope st) .none kV doc pm an cdv ct) := ⟨⟨oc, od, kV, doc, pm, an, cdv, ct, osl, rfl, l, c⟩, k⟩
end
theorem hu_of {A : Around} {k : Nat} (hr : Room k A) : A.units + 1 < cLine := Nat.lt_of_le_of_lt (Nat.add_le_add_left (by decide : 1 ≤ 64) _) hr.units
section
variable {X : Cx}
theorem pv (i : Nat) {x : Str} {pos : Pos} (hN : X.N[i]? = some x := by rfl) (hv : Vis X.env.scope x := by first | exact Or.inl rfl | exact Or.inr (Or.inl rfl) | exact Or.inr (Or.inr rfl)) (hd : (x == ("__debug__" : Str)) = false := by decide)
 (hcd : (x == ("__classdict__" : Str)) = false := by decide) : PE X (.Name x pos) (tVar i) := pe_var hN hv hd hcd
end
theorem iteF {A B : Prop} (h : B) : if false = true then A else B := by
 rw [if_neg Bool.false_ne_true]
 exact h
theorem iteT {A B : Prop} (h : A) : if true = true then A else B := by
 rw [if_pos rfl]
 exact h
theorem ite2 {c A B : Prop} [Decidable c] (h1 : c → A) (h2 : ¬ c → B) : if c then A else B := by
 by_cases h : c
 · rw [if_pos h]
   exact h1 h
 · rw [if_neg h]
   exact h2 h
theorem iteNS {c A B : Prop} [Decidable c] (hc : c) (h : B) : if (!decide c) = true then A else B := by
 rw [decide_eq_true hc]
 exact iteF h
def Same (H H' : Hp) : Prop := ∀ b o, H b = some o → H' b = some o
theorem Same.refl (H : Hp) : Same H H := fun _ _ h => h
theorem Same.trans {H H1 H2 : Hp} (a : Same H H1) (b : Same H1 H2) : Same H H2 := fun c o h => b c o (a c o h)
theorem Same.free {H H' : Hp} (e : Same H H') {l : Addr} (h : H' l = Option.none) : H l = Option.none := by
 cases q : H l with
 | none => rfl
 | some o =>
   rw [e l o q] at h
   cases h
theorem Same.seq {K : PySem.W.Frag} {H H' : Hp} {a : Addr} {xs : List V} (e : Same H H') (h : SqL K H a xs) : SqL K H' a xs := by
 rcases h with (h | ⟨o, h⟩) | h
 · exact .inl (.inl (e _ _ h))
 · exact .inl (.inr ⟨o, e _ _ h⟩)
 · exact .inr h

end L2

set_option Elab.async false
set_option linter.all false
set_option maxRecDepth 100000
set_option maxHeartbeats 4000000
namespace L2
open PySem PySem.Spec PyProof.Rows
def closOf (env : Env) : List (Str × NameKind) → List (Str × Addr) → List (Str × Addr)
 | [], cs => cs
 | (n, k) :: r, cs => closOf env r (if k == .free then (n, (env.cells.lookup n).getD 0) :: cs else cs)
theorem closureFor_eq {scope : Scope} {env : Env} (h : ∀ n, (n, NameKind.free) ∈ scope.names → ∃ c, env.cells.lookup n = some c) :
   closureFor scope env = pure (closOf env scope.names []) := by
 simp only [closureFor]
 have key : ∀ (l : List (Str × NameKind)) (cs : List (Str × Addr)), (∀ n, (n, NameKind.free) ∈ l → ∃ c, env.cells.lookup n = some c) →
     (forIn l cs (fun x r => if (x.2 == NameKind.free) = true then (cellOf env x.1 >>= fun a => pure (ForInStep.yield ((x.1, a) :: r))) else pure (ForInStep.yield r)) : Sem (List (Str × Addr))) = pure (closOf env l cs) := by
   intro l
   induction l with
   | nil => intro cs _; rfl
   | cons x l ih =>
     intro cs hl
     obtain ⟨n, k⟩ := x
     have hl' : ∀ n, (n, NameKind.free) ∈ l → ∃ c, env.cells.lookup n = some c := fun n hn => hl n (List.mem_cons_of_mem _ hn)
     rw [List.forIn_cons]
     by_cases hk : k = .free
     · subst hk
       obtain ⟨c, hc⟩ := hl n List.mem_cons_self
       have e1 : cellOf env n = pure c := by unfold cellOf; rw [hc]
       simp only [beq_self_eq_true, if_true, e1, pure_bind]
       rw [ih _ hl']
       simp only [closOf, beq_self_eq_true, if_true, hc, Option.getD_some]
     · have hb : (k == NameKind.free) = false := by simpa using hk
       simp only [hb, Bool.false_eq_true, if_false, pure_bind]
       rw [ih _ hl']
       simp only [closOf, hb, Bool.false_eq_true, if_false]
 exact (congrArg (fun z => z >>= fun r => pure r) (key scope.names [] h)).trans rfl
theorem closOf_sub {env : Env} : ∀ (l : List (Str × NameKind)) (cs : List (Str × Addr)), (∀ n, (n, NameKind.free) ∈ l → ∃ c, env.cells.lookup n = some c) → (∀ x c, cs.lookup x = some c → env.cells.lookup x = some c) →
   ∀ x c, (closOf env l cs).lookup x = some c → env.cells.lookup x = some c
 | [], cs, _, h, x, c, e => h x c e
 | (n, k) :: r, cs, hl, h, x, c, e => by
   refine closOf_sub r _ (fun n hn => hl n (List.mem_cons_of_mem _ hn)) ?_ x c e
   intro y d hy
   by_cases hk : (k == NameKind.free) = true
   · rw [if_pos hk] at hy
     have hk' : k = .free := by simpa using hk
     subst hk'
     obtain ⟨c', hc'⟩ := hl n List.mem_cons_self
     rw [hc', Option.getD_some, List.lookup_cons] at hy
     cases hyn : y == n with
     | true =>
       rw [hyn] at hy
       have : y = n := by simpa using hyn
       subst this
       rw [hc']; exact hy
     | false => rw [hyn] at hy; exact h y d hy
   · rw [if_neg hk] at hy; exact h y d hy
theorem closOf_some {env : Env} : ∀ (l : List (Str × NameKind)) (cs : List (Str × Addr)) (x : Str), ((x, NameKind.free) ∈ l ∨ ∃ c, cs.lookup x = some c) → ∃ c, (closOf env l cs).lookup x = some c
 | [], cs, x, h => by
   rcases h with h | h
   · cases h
   · exact h
 | (n, k) :: r, cs, x, h => by
   refine closOf_some r _ x ?_
   rcases h with h | ⟨c, h⟩
   · rcases List.mem_cons.mp h with e | h
     · cases e
       refine .inr ⟨(env.cells.lookup n).getD 0, ?_⟩
       simp [List.lookup_cons]
     · exact .inl h
   · right
     by_cases hk : (k == NameKind.free) = true
     · rw [if_pos hk, List.lookup_cons]
       cases x == n with
       | true => exact ⟨_, rfl⟩
       | false => exact ⟨c, h⟩
     · rw [if_neg hk]; exact ⟨c, h⟩
theorem lookup_relabel {env : Env} (x : Str) : ∀ (names : List (Str × NameKind)),
   (names.map fun (n, k) => if (k == NameKind.free && env.scope.kind == .function && env.kindOf n == some .cell) then (n, NameKind.cell) else (n, k)).lookup x =
     (names.lookup x).map fun k => if (k == NameKind.free && env.scope.kind == .function && env.kindOf x == some .cell) then NameKind.cell else k
 | [] => rfl
 | (n, k) :: r => by
   have ih := lookup_relabel (env := env) x r
   show List.lookup x ((if (k == NameKind.free && env.scope.kind == .function && env.kindOf n == some .cell) = true then (n, NameKind.cell) else (n, k)) :: _) = _
   cases hx : x == n with
   | true =>
     have e : x = n := by simpa using hx
     subst e
     by_cases hc : (k == NameKind.free && env.scope.kind == .function && env.kindOf x == some .cell) = true
     · rw [if_pos hc]; simp only [List.lookup_cons, beq_self_eq_true, Option.map_some, if_pos hc]
     · rw [if_neg hc]; simp only [List.lookup_cons, beq_self_eq_true, Option.map_some, if_neg hc]
   | false =>
     by_cases hc : (k == NameKind.free && env.scope.kind == .function && env.kindOf n == some .cell) = true
     · rw [if_pos hc]; simp only [List.lookup_cons, hx]; exact ih
     · rw [if_neg hc]; simp only [List.lookup_cons, hx]; exact ih

structure CompScope (XN : List Str) (xsc : Scope) (N : List Str) (nv : Nat) (js : List Nat) (scope : Scope) : Prop where
 kind : scope.kind = .function
 cell : ∀ y ∈ scope.names, y.2 ≠ .cell
 loc : ∀ y ∈ scope.names, y.2 = .local → scope.names.lookup y.1 = some .local
 free : ∀ y ∈ scope.names, y.2 = .free → (xsc.names.lookup y.1 = some .cell ∨ xsc.names.lookup y.1 = some .free)
 nd : N.Nodup
 len : N.length = nv + js.length
 pl : js.map (fun j => XN[j]?) = (N.drop nv).map some
 fr : ∀ x ∈ N.drop nv, scope.names.lookup x = some .free

abbrev cxComp (X : Cx) (N : List Str) (scope : Scope) (C : Addr) (s : Shared) (H : Hp) (fp : List Addr) : Cx where
 prog := X.prog
 w := X.w
 K := X.K
 mg := X.mg
 base := X.base
 A := X.A
 N := N
 s₀ := s
 H₀ := H
 env := compEnvC scope (closOf X.env scope.names []) C X.env
 outer := X.stack
 stack := X.stack
 ex := fp
 fn := fun _ => false
 calm := X.calm
 pn := []
 xe := fun _ _ => False
def compSt (nv : Nat) (js : List Nat) (σ : St) : St := List.replicate nv none ++ js.map fun j => (σ[j]?).getD none

section
variable {X : Cx} {pins : List (Addr × Obj)} {σ : St} {H : Hp} {s : Shared}
theorem comp_start {N : List Str} {nv : Nat} {js : List Nat} {scope : Scope} {fp : List Addr} {h1 : Heap} {tk : Nat} (I : Inv X pins σ H s) (S : CompScope X.N X.env.scope N nv js scope) (hf : ∀ b ∈ fp, FpOk X pins H b) (hfl : ∀ b ∈ fp, b < s.heap.objs.size)
   (keep : ∀ b o, s.heap.get? b = some o → h1.get? b = some o) (ns : h1.Ns s.heap.objs.size fun _ => none) :
   Inv (cxComp X N scope s.heap.objs.size s H fp) [] (compSt nv js σ) H { s with heap := h1, toks := tk } := by
 have hfr : ∀ n, (n, NameKind.free) ∈ scope.names → ∃ c, X.env.cells.lookup n = some c := fun n hn => I.ok.has n (S.free _ hn rfl)
 have sub : ∀ x c, (closOf X.env scope.names []).lookup x = some c → X.env.cells.lookup x = some c := closOf_sub scope.names [] hfr (fun x c z => by cases z)
 have nocell : ∀ x, scope.names.lookup x ≠ some .cell := fun x z => S.cell _ (PySem.mem_of_lookup z) rfl
 have hasx : ∀ x, (relabel scope X.env).names.lookup x = some .cell ∨ (relabel scope X.env).names.lookup x = some .free → scope.names.lookup x = some .free := by
   intro x hx
   have e := lookup_relabel (env := X.env) x scope.names
   have hx' : (relabel scope X.env).names.lookup x = _ := e
   rw [hx'] at hx
   cases q : scope.names.lookup x with
   | none => rw [q] at hx; rcases hx with hx | hx <;> cases hx
   | some k =>
     rw [q, Option.map_some] at hx
     cases k <;> first | rfl | (exact absurd q (nocell x)) | (exfalso; rcases hx with hx | hx <;> simp at hx)
 refine ⟨⟨I.ok.mod, S.kind, I.ok.glob, I.ok.blt, Nat.le_refl _, fun x y c h1 h2 => I.ok.inj x y c (sub _ _ h1) (sub _ _ h2), fun x hx => ?_, fun x c z => (by cases z), I.ok.hd, I.ok.frames, .inl rfl, fun b hb => ?_, fun b o e => ?_, ?_, fun b o e hb => ?_, fun b hb z => ?_, I.stack, I.stkFree⟩,
   rfl, I.bare, Un.kept keep, ⟨_, ns, fun i x v e1 e2 e3 => ?_⟩, fun x c e => ?_, I.hok.fresh (Nat.le_refl _), fun x c e => I.freeC x c (sub _ _ e), fun p hp => absurd (show p ∈ ([] : List (Addr × Obj)) from hp) (by simp), I.hok.kept keep, ?_⟩
 · exact closOf_some _ _ _ (.inl (PySem.mem_of_lookup (hasx x hx)))
 · obtain ⟨f0, f1, f2, f3, f4, f5⟩ := hf b hb
   exact ⟨Nat.ne_of_lt (hfl b hb), fun x c e => f4 x c (sub x c e)⟩
 · exact I.bs b o e
 · exact Nat.le_trans I.ok.bsz I.sz
 · obtain ⟨f0, f1, f2, f3, f4, f5⟩ := hf b hb
   rcases f3 with z | z
   · exact I.ok.noex b o e z
   · exact absurd (Nat.lt_of_lt_of_le (Heap.lt_size e) (Nat.le_trans I.ok.bsz z)) (Nat.lt_irrefl _)
 · obtain ⟨f0, f1, f2, f3, f4, f5⟩ := hf b hb
   rcases List.mem_cons.mp (I.stkSub b z) with q | q
   · exact f1 q
   · exact f2 q
 · -- a name that the block reads from outside
   have hi : ¬ i < nv := fun hlt => by
     unfold compSt at e2
     rw [List.getElem?_append_left (by simpa using hlt), List.getElem?_replicate, if_pos hlt] at e2
     cases e2
   obtain ⟨k, rfl⟩ : ∃ k, i = nv + k := ⟨i - nv, by omega⟩
   unfold compSt at e2
   rw [List.getElem?_append_right (by simp), List.length_replicate, Nat.add_sub_cancel_left, List.getElem?_map] at e2
   cases hj : js[k]? with
   | none => rw [hj] at e2; cases e2
   | some j =>
     rw [hj, Option.map_some] at e2
     have e2' : (σ[j]?).getD none = some v := Option.some.inj e2
     have hσ : σ[j]? = some (some v) := by
       cases q : σ[j]? with
       | none => rw [q] at e2'; cases e2'
       | some z => rw [q] at e2'; exact congrArg some e2'
     have hd : (N.drop nv)[k]? = some x := by rw [List.getElem?_drop]; exact e1
     have hX : X.N[j]? = some x := by
       have q := congrArg (fun l => l[k]?) S.pl
       simp only [List.getElem?_map, hj, hd, Option.map_some] at q
       exact Option.some.inj q
     have hfx := S.fr x (List.mem_of_getElem? hd)
     have kx := S.free _ (PySem.mem_of_lookup hfx) rfl
     obtain ⟨m, _, hl⟩ := I.loc
     obtain ⟨u, r, l⟩ := hl j x v hX hσ (.inr kx)
     refine ⟨u, r, ?_⟩
     rcases l with ⟨k1, _⟩ | ⟨_, c, hc, hcell⟩
     · exfalso
       have k1' : X.env.scope.names.lookup x = some .local := k1
       rcases kx with z | z <;> (rw [k1'] at z; cases z)
     · obtain ⟨c', hc'⟩ := closOf_some (env := X.env) scope.names [] x (.inl (PySem.mem_of_lookup hfx))
       have e := sub _ _ hc'
       rw [hc] at e; cases e
       refine .inr ⟨?_, c, hc', hcell.keeps keep⟩
       have e := lookup_relabel (env := X.env) x scope.names
       have e' : (relabel scope X.env).names.lookup x = _ := e
       rw [hfx, Option.map_some] at e'
       show (relabel scope X.env).names.lookup x = some .cell ∨ (relabel scope X.env).names.lookup x = some .free
       rw [e']
       split
       · exact .inl rfl
       · exact .inr rfl
 · obtain ⟨v, q⟩ := I.cell x c (sub _ _ e)
   exact ⟨v, q.keeps keep⟩
 · unfold compSt
   show _ = N.length
   rw [List.length_append, List.length_replicate, List.length_map, S.len]
end
end L2

set_option Elab.async false
set_option linter.all false
set_option maxRecDepth 100000
set_option maxHeartbeats 4000000
namespace L2
open PySem PySem.Spec PyProof.Rows
def PIfs (X : Cx) (ifs : List Expr) (t : TT) : Prop :=
 ∀ (pins : List (Addr × Obj)) (s : Shared) (σ : St) (H : Hp) (Q : Bool → Hp → Prop), Inv X pins σ H s → t σ H Q →
   wpAny (model X.prog X.w) X.A (forIn ifs true fun c r => if r = true then do let ok ← isTrue c X.env (eval c X.env); pure (ForInStep.yield ok) else pure (ForInStep.yield r)) (TP X pins σ Q) X.xe s
def tYes : TT := fun _ H Q => Q true H
theorem pif_nil {X : Cx} : PIfs X [] tYes := fun _ _ _ H _ I h => wpAny_tests_nil ⟨H, I, h⟩
theorem pif_one {X : Cx} {c : Expr} {t : TT} (h : PT X c t) : PIfs X [c] t := fun pins s σ H Q I q => wpAny_tests_one (h pins s σ H Q I q)
def CompR (J : It) (g : TG) (tt : TT) (te : TE) (Q : VK) (D : Addr) (τ : St) (H : Hp) : Prop :=
 ∃ W : Nat → Nat → List V → St → Hp → Prop, (∃ m, W 0 m [] τ (upd H D (.lst []))) ∧ ∀ i m ys τ H, W i m ys τ H → H D = some (.lst ys) ∧
   ((J.stop i H ∧ Q (.ref D) H) ∨ (J.go i H ∧ ∃ N : List V → St → Hp → Prop, (∀ zs σ' H', N zs σ' H' → ∃ m', m' < m ∧ W (i + 1) m' zs σ' H') ∧ ∀ x H', J.yld i H x H' → g x τ H' fun τ2 H2 => tt τ2 H2 fun b H3 =>
     if b = true then te τ2 H3 fun y H4 => H4 D = some (.lst ys) ∧ ys.length < sizeLine ∧ N (ys ++ [y]) τ2 (upd H4 D (.lst (ys ++ [y])))
     else N ys τ2 H3))
def tComp (wi : TI) (g : TG) (tt : TT) (te : TE) (nv : Nat) (js : List Nat) : TE := fun σ H Q => wi σ H fun J H1 => ∀ D, H1 D = none → CompR J g tt te Q D (compSt nv js σ) H1

theorem loop_tests {prog : Program} {w : World} {A : Around} {R : Result → Shared → Prop} {s : Shared} {elt target iter : Expr} {ifs : List Expr} {scope : Scope} {pos : Pos} {it acc : Value} {env : Env} (I : Nat → Shared → Prop)
   (turn : ∀ n s, I n s → wpAny (model prog w) A (pyNext it) (fun r s₁ => match r with
     | none => R (.ok .next) s₁
     | some v => wpAny (model prog w) A (letOwnedTupleGo target it v) (fun _ s₁' => wpAny (model prog w) A (assign target env v) (fun _ s₂ =>
         wpAny (model prog w) A (forIn ifs true fun c r => if r = true then do let ok ← isTrue c env (eval c env); pure (ForInStep.yield ok) else pure (ForInStep.yield r)) (fun ok s₃ =>
           if ok = true then wpAny (model prog w) A (eval elt env) (fun x s₄ =>
             wpAny (model prog w) A (call (.builtin "list.append") [acc, x]) (fun _ s₅ => ∃ m, m < n ∧ I m s₅) (fun _ _ => False) s₄) (fun _ _ => False) s₃
           else ∃ m, m < n ∧ I m s₃) (fun _ _ => False) s₂) (fun _ _ => False) s₁') (fun _ _ => False) s₁) (fun _ _ => False) s)
   (n : Nat) (h : I n s) :
   codeAny (model prog w) A (.compLoop (.ListComp elt [⟨target, iter, ifs, 0⟩] scope pos) 0 it acc env) R s := by
 refine codeAny_loop rfl I (fun n s hI => ?_) n h
 show wpAny _ A ((compTurn (.ListComp elt [⟨target, iter, ifs, 0⟩] scope pos) 0 it acc env).onRaise (fun x => do noteFrame x env; theTreesLotGoes x)) _ _ s
 refine wpAny_noted (wpAny_mono (E := fun _ _ => False) ?_ (fun _ _ q => q) fun _ _ q => q.elim)
 rw [compTurn_list]
 refine wpAny_bind (wpAny_standAt (wpAny_bind (wpAny_mono (turn n s hI) (fun r s₁ h₁ => ?_) fun _ _ h' => h')))
 cases r with
 | none => exact wpAny_pure h₁
 | some v =>
   refine wpAny_bind (wpAny_mono h₁ (fun _ s₁' h₁' => ?_) fun _ _ h' => h')
   refine wpAny_bind (wpAny_mono h₁' (fun _ s₂ h₂ => wpAny_bind (wpAny_mono h₂ (fun ok s₃ h₃ => ?_) fun _ _ h' => h')) fun _ _ h' => h')
   cases ok with
   | false => exact wpAny_pure ⟨rfl, h₃⟩
   | true =>
     exact wpAny_bind (wpAny_bind (wpAny_mono h₃ (fun x s₄ h₄ => wpAny_bind (wpAny_mono h₄ (fun _ s₅ h₅ => wpAny_pure (wpAny_pure ⟨rfl, h₅⟩)) fun _ _ h' => h')) fun _ _ h' => h'))

section
variable {X : Cx} {elt tg iter : Expr} {ifs : List Expr} {scope : Scope} {pos : Pos} {N : List Str} {nv : Nat} {js : List Nat} {wi : TI} {g : TG} {tt : TT} {te : TE}

theorem comp_block {pins : List (Addr × Obj)} {σ : St} {H : Hp} {s : Shared} {Q : VK} {it : Addr} {fp : List Addr} {tn : Nat → Heap → Prop} {J : It} {E : Value → Shared → Prop} {RR : Value → Addr → Result → Shared → Prop} (hc : X.calm = true)
   (S : CompScope X.N X.env.scope N nv js scope) (hg : ∀ C s H fp, PG (cxComp X N scope C s H fp) tg g) (ht : ∀ C s H fp, PIfs (cxComp X N scope C s H fp) ifs tt) (he : ∀ C s H fp, PE (cxComp X N scope C s H fp) elt te)
   (I : Inv X pins σ H s) (T : Turn X.prog X.w X.K tg J fp it tn) (st : tn 0 s.heap) (hf : ∀ b ∈ fp, FpOk X pins H b) (hR : ∀ D, H D = none → CompR J g tt te Q D (compSt nv js σ) H)
   (hRR : ∀ D C H' s' m, Inv X pins σ H' s' → FpOk X pins H' C → s'.heap.Ns C m → Q (.ref D) H' → RR (.ref D) C (.ok .next) s') :
   wpAny (model X.prog X.w) X.A (newList []) (fun acc s₃ => wpAny (model X.prog X.w) X.A (newFunctionEnv scope X.env.globals (closOf X.env scope.names []) [] X.env.qual none .none (some X.env)) (fun cenv s₄ =>
     codeAny (model X.prog X.w) X.A (.compStart (.ListComp elt [⟨tg, iter, ifs, 0⟩] scope pos) 0 (.ref it) acc { cenv with scope := relabel scope X.env }) (RR acc cenv.locals) s₄) E s₃) E s := by
 refine wpAny_newObj_type (wpAny_newFunctionEnv S.cell (by intro y hy; simp at hy) (fun h₁ hns₁ hsb₁ => ?_) S.kind)
 have I3 : Inv X pins σ (upd H s.heap.objs.size (.lst [])) { s with heap := s.heap.push { cls := .type "list", data := .seq ([] : List Value).toArray } } := I.lnew (t' := s.toks) (its := []) .nil (Nat.zero_le _)
 have hD := I.fresh
 obtain ⟨W, ⟨m0, w0⟩, turn⟩ := hR s.heap.objs.size hD
 have ho := T.obj 0 s.heap st
 have hfl0 : ∀ b ∈ fp, b < s.heap.objs.size := fun b hb => let ⟨o, e, _⟩ := ho b hb; Heap.lt_size e
 have hf3 : ∀ b ∈ fp, FpOk X pins (upd H s.heap.objs.size (.lst [])) b := fun b hb => ⟨by rw [upd_ne (Nat.ne_of_lt (hfl0 b hb))]; exact (hf b hb).1, (hf b hb).2⟩
 generalize hs3 : ({ s with heap := s.heap.push { cls := .type "list", data := .seq ([] : List Value).toArray } } : Shared) = s3 at I3 hns₁ hsb₁
 have e3 : s3.heap = s.heap.push { cls := .type "list", data := .seq ([] : List Value).toArray } := by rw [← hs3]
 have hfl : ∀ b ∈ fp, b < s3.heap.objs.size := fun b hb => by rw [e3, Heap.size_push]; exact Nat.lt_succ_of_lt (hfl0 b hb)
 have keep : ∀ b o, s3.heap.get? b = some o → h₁.get? b = some o := fun b o e => hsb₁.extBut b o (Nat.ne_of_lt (Heap.lt_size e)) (Heap.get?_push_of_some _ e)
 have J0 := comp_start (tk := s3.toks + ([] : List (Str × Value)).length) I3 S hf3 hfl keep hns₁
 have st1 : tn 0 h₁ := T.keep 0 s.heap h₁ st fun b hb o e => keep b o (by rw [e3]; exact Heap.get?_push_of_some _ e)
 generalize hH3 : upd H s.heap.objs.size (.lst []) = H3 at *
 generalize hY : cxComp X N scope s3.heap.objs.size s3 H3 fp = Y at *
 have sub : ∀ x c, (closOf X.env scope.names []).lookup x = some c → X.env.cells.lookup x = some c :=
   closOf_sub scope.names [] (fun n hn => I.ok.has n (S.free _ hn rfl)) (fun x c z => by cases z)
 have stat : ∀ {H' : Hp}, (∀ b ∈ fp, H' b = none) → ∀ b ∈ fp, FpOk Y [] H' b := fun {H'} hn b hb => by
   subst hY
   obtain ⟨f0, f1, f2, f3, f4, f5⟩ := hf3 b hb
   refine ⟨hn b hb, Nat.ne_of_lt (hfl b hb), fun z => ?_, .inl hb, fun x c e => f4 x c (sub x c e), fun p hp => absurd (show p ∈ ([] : List (Addr × Obj)) from hp) (by simp)⟩
   rcases List.mem_cons.mp (I3.stkSub b z) with q | q
   · exact f1 q
   · exact f2 q
 have eA : Y.A = X.A := by subst hY; rfl
 have eP : Y.prog = X.prog := by subst hY; rfl
 have eW : Y.w = X.w := by subst hY; rfl
 have eK : Y.K = X.K := by subst hY; rfl
 have eC : Y.calm = true := by subst hY; exact hc
 have eE : Y.env = compEnvC scope (closOf X.env scope.names []) s3.heap.objs.size X.env := by subst hY; rfl
 have eXe : Y.xe = fun _ _ => False := by subst hY; rfl
 have hgY : PG Y tg g := by subst hY; exact hg _ _ _ _
 have htY : PIfs Y ifs tt := by subst hY; exact ht _ _ _ _
 have heY : PE Y elt te := by subst hY; exact he _ _ _ _
 have loop : codeAny (model X.prog X.w) X.A (.compLoop (.ListComp elt [⟨tg, iter, ifs, 0⟩] scope pos) 0 (.ref it) (.ref s.heap.objs.size) (compEnvC scope (closOf X.env scope.names []) s3.heap.objs.size X.env))
     (RR (.ref s.heap.objs.size) s3.heap.objs.size) { s3 with heap := h₁, toks := s3.toks + ([] : List (Str × Value)).length } := by
   refine loop_tests (fun n s' => ∃ i ys τ H', Inv Y [] τ H' s' ∧ tn i s'.heap ∧ (∀ b ∈ fp, H' b = none) ∧ W i n ys τ H') ?_ m0 ⟨0, [], _, H3, J0, st1, fun b hb => (hf3 b hb).1, w0⟩
   rintro n s4 ⟨i, ys, τ, H4, I4, st4, fr4, w4⟩
   obtain ⟨hDl, tr⟩ := turn i n ys τ H4 w4
   rcases tr with ⟨stop, qn⟩ | ⟨go, Nn, hNn, step⟩
   · have d := T.done Y eP eW eK eC i [] s4 τ H4 (fun _ _ => False) I4 (stat fr4) st4 stop
     rw [eA] at d
     refine thn d fun r s5 ⟨hr, I5⟩ => ?_
     subst hr
     have u : Inv X pins σ H4 s5 := by
       subst hY
       exact I3.call' (ch := fp) I5.os I5.base I5.hok I5.bare fun b hb => ⟨(hf3 b hb).2.2.2.1, (hf3 b hb).2.1, (hf3 b hb).2.2.2.2.1, (hf3 b hb).2.2.2.2.2⟩
     have hC : H4 s3.heap.objs.size = none := by have z := I5.free; rw [eE] at z; exact z
     obtain ⟨m, hn, _⟩ := I5.loc
     rw [eE] at hn
     exact hRR _ _ H4 s5 m u (I3.fpOk (Nat.le_refl _) hC) hn qn
   · have d := T.item Y eP eW eK eC i [] s4 τ H4 (fun _ _ => False) I4 (stat fr4) st4 go
     rw [eA] at d
     refine thn d fun r s5 ⟨u, hr, h5⟩ => ?_
     subst hr
     refine thn h5 fun _ s6 ⟨x, H6, I6, r6, y6, st6, fr6⟩ => ?_
     have I6' := I6.pinned (stat fr6) (T.obj _ _ st6)
     have q6 := hgY _ s6 τ H6 x u _ I6' r6 (step x H6 y6)
     rw [eP, eW, eA, eE, eXe] at q6
     refine thn q6 fun _ s7 ⟨σ7, H7, I7, q7⟩ => ?_
     have q8 := htY _ s7 σ7 H7 _ I7 q7
     rw [eP, eW, eA, eE, eXe] at q8
     refine thn q8 fun ok s8 ⟨H8, I8, q8⟩ => ?_
     have again : ∀ {σ9 : St} {H9 : Hp} {s9 : Shared} {zs : List V}, Inv Y ([] ++ pinsAt fp s6.heap) σ9 H9 s9 → (∃ m', m' < n ∧ W (i + 1) m' zs σ9 H9) → ∃ m, m < n ∧ ∃ i ys τ H', Inv Y [] τ H' s9 ∧ tn i s9.heap ∧ (∀ b ∈ fp, H' b = none) ∧ W i m ys τ H' := fun {σ9 H9 s9 zs} I9 n9 => by
       obtain ⟨m', hm, w9⟩ := n9
       refine ⟨m', hm, i + 1, zs, σ9, H9, I9.unpinned, T.keep _ _ _ st6 fun b hb o e => (I9.pin (b, o) (List.mem_append_right _ (List.mem_append_right _ (mem_pinsAt hb e)))).1, fun b hb => ?_, w9⟩
       obtain ⟨o, e, d⟩ := T.obj _ _ st6 b hb
       exact (I9.pin (b, o) (List.mem_append_right _ (List.mem_append_right _ (mem_pinsAt hb e)))).2.1
     cases ok with
     | false =>
       rw [if_neg Bool.false_ne_true]
       rw [if_neg Bool.false_ne_true] at q8
       exact again I8 (hNn _ _ _ q8)
     | true =>
       rw [if_pos rfl]
       rw [if_pos rfl] at q8
       have q9 := heY _ s8 σ7 H8 _ I8 q8
       rw [eP, eW, eA, eE, eXe] at q9
       refine thn q9 fun y s9 ⟨yv, H9, I9, r9, hD9, hz9, q9⟩ => ?_
       have ap := mt_append (X := Y) _ s9 σ7 H9 (.ref s.heap.objs.size) [yv] (.ref s.heap.objs.size) [y] (fun _ H10 => Nn (ys ++ [yv]) σ7 H10) I9 rfl (.cons r9 .nil) ⟨_, ys, yv, rfl, rfl, hD9, hz9, q9⟩
       rw [eP, eW, eA, eXe] at ap
       exact thn ap fun _ s10 ⟨_, H10, I10, _, q10⟩ => again I10 (hNn _ _ _ q10)
 subst hs3
 exact codeAny_compStart_list loop (T.self _ 0 _ _ _ st1 loop)
theorem pe_comp (hc : X.calm = true) (S : CompScope X.N X.env.scope N nv js scope) (hi : PI X tg iter wi) (hg : ∀ C s H fp, PG (cxComp X N scope C s H fp) tg g) (ht : ∀ C s H fp, PIfs (cxComp X N scope C s H fp) ifs tt)
   (he : ∀ C s H fp, PE (cxComp X N scope C s H fp) elt te) (hs : ∀ x, foldedSetIterable iter X.env x = pure x := by intro _; rfl) :
   PE X (.ListComp elt [⟨tg, iter, ifs, 0⟩] scope pos) (tComp wi g tt te nv js) := by
 intro pins s σ H Q I h
 rw [eval_ListComp]
 refine wpAny_comprehension_free (use := none) rfl hs (closureFor_eq fun n hn => I.ok.has n (S.free _ hn rfl)) S.kind S.loc (thn (hi pins s σ H _ I h) fun v s1 h1 => thn h1 fun itv s2 h2 => ?_)
 obtain ⟨it, fp, tn, J, H2, e, I2, T, st2, f2, hR⟩ := h2
 subst e
 refine comp_block (RR := fun acc C => compPost (model X.prog X.w) X.A X.xe none (EP X pins σ Q) acc C) hc S hg ht he I2 T st2 f2 hR ?_
 intro D C H' s' m I' fC hn q
 refine ⟨m, hn, fun h' sb => ⟨.ref D, H', ?_, rfl, q⟩⟩
 exact I'.turned (t' := s'.toks) (fun b o hb e => (sb.2 b hb).trans e) fC.1 fC.2.1 fC.2.2.2.1 fC.2.2.2.2.1 fC.2.2.2.2.2
theorem ps_setC {i : Nat} {x : Str} {pos' spos : Pos} (hc : X.calm = true) (hN : X.N.Nodup) (hi' : X.N[i]? = some x) (hx : X.env.scope.names.lookup x = some .local) (S : CompScope X.N X.env.scope N nv js scope) (hi : PI X tg iter wi) (hg : ∀ C s H fp, PG (cxComp X N scope C s H fp) tg g) (ht : ∀ C s H fp, PIfs (cxComp X N scope C s H fp) ifs tt)
   (he : ∀ C s H fp, PE (cxComp X N scope C s H fp) elt te) (hsw : swapsWith (.ListComp elt [⟨tg, iter, ifs, 0⟩] scope pos) (some (.Name x pos')) spos.line X.env = pure true := by rfl) (hs : ∀ x, foldedSetIterable iter X.env x = pure x := by intro _; rfl) :
   PS X (.Assign [.Name x pos'] (.ListComp elt [⟨tg, iter, ifs, 0⟩] scope pos) spos) (tAsg (tComp wi g tt te nv js) (gName i)) := by
 intro pins s σ H D I h
 rw [exec_Assign_Name_used _ _ _ _ hsw]
 refine wpAny_bind (wpAny_standAt (wpAny_bind ?_))
 show wpAny _ X.A (do let _ ← comprehension (.ListComp elt [⟨tg, iter, ifs, 0⟩] scope pos) scope X.env _ (newList []) false (eval iter X.env) (some (assign (.Name x pos') X.env))) _ _ s
 refine wpAny_bind (wpAny_mono (wpAny_comprehension_free (use := some (assign (.Name x pos') X.env)) (Q := fun _ s' => SP X pins D .next s') rfl hs (closureFor_eq fun n hn => I.ok.has n (S.free _ hn rfl)) S.kind S.loc
   (thn (hi pins s σ H _ I h) fun v s1 h1 => thn h1 fun itv s2 h2 => ?_)) (fun _ s' hq => wpAny_pure (wpAny_pure hq)) fun _ _ e => e)
 obtain ⟨it, fp, tn, J, H2, e, I2, T, st2, f2, hR⟩ := h2
 subst e
 refine comp_block (RR := fun acc C => compPost (model X.prog X.w) X.A X.xe (some (assign (.Name x pos') X.env)) (fun _ s' => SP X pins D .next s') acc C) hc S hg ht he I2 T st2 f2 hR ?_
 intro Dl C H' s' m I' fC hn q
 show wpAny _ X.A (assign (.Name x pos') X.env (.ref Dl)) _ _ _
 refine wpAny_assign_Name (store_ok2 I' hN hi' (.inl hx) (v := .ref Dl) rfl (fun s2 I3 ch => ?_) (.inr hx))
 obtain ⟨a, sb, ha⟩ := ch
 have hCa : C ≠ a := by
   rcases ha with rfl | ha
   · exact fC.2.1
   · exact (fC.2.2.2.2.1 x a ha).symm
 refine ⟨m, hn.sameBut sb hCa, fun h' sb' => ⟨_, H', ?_, q⟩⟩
 exact I3.turned (t' := s2.toks) (fun b o hb e => (sb'.2 b hb).trans e) fC.1 fC.2.1 fC.2.2.2.1 fC.2.2.2.2.1 fC.2.2.2.2.2
end
end L2

set_option Elab.async false
set_option linter.all false
set_option maxRecDepth 100000
set_option maxHeartbeats 4000000
namespace L2
open PySem PySem.Spec PyProof.Rows
theorem lri_no_len : typeLookup (.type "list_reverseiterator") "__len__" = pure none := by rw [typeLookup_type, builtinLookup_eq_fast]; kernel_rfl
theorem lri_hint : typeLookup (.type "list_reverseiterator") "__length_hint__" = pure (some (.builtin "list_reverseiterator.__length_hint__")) := by rw [typeLookup_type, builtinLookup_eq_fast]; kernel_rfl
section
variable {prog : Program} {w : World} {A : Around} {E : Value → Shared → Prop} {s : Shared}
theorem hint_rev {I l : Addr} {i : Int} {Q : Bool → Shared → Prop} (hit : s.heap.IsRevIter I l i) (h : Q false s) : wpAny (model prog w) A (Builtin.List.listLengthHint (.ref I)) Q E s := by
 unfold Builtin.List.listLengthHint
 refine wpAny_bind (wpAny_specialOf hit.typeIs lri_no_len ?_)
 show wpAny _ _ (specialOf (Value.ref I) (Str.ofString "__length_hint__") >>= _) _ _ _
 refine wpAny_bind (wpAny_specialOf hit.typeIs lri_hint ?_)
 generalize hid : ("list_reverseiterator.__length_hint__" : String) = id0
 wp_delta
 rw [show splitId id0 = some ("list_reverseiterator", "__length_hint__") from by subst hid; decide +kernel]
 subst hid
 refine wpAny_bind (wpAny_isInstance (T := "list_reverseiterator") (b := true) hit.typeIs (by rw [isSubtype_type]; kernel_rfl) ?_)
 refine wpAny_ite_split (fun hab => absurd hab (by decide)) (fun _ => ?_)
 refine wpAny_ite_split (fun _ => ?_) (fun hab => absurd (by decide +kernel) hab)
 refine wpAny_ite_split (fun hab => absurd hab (by decide +kernel)) (fun _ => ?_)
 exact wpAny_pure h
theorem extend_rev {R : Result → Shared → Prop} (hh : A.handled = none) {I l : Addr} {items : Array Value} (hne : l ≠ I) (hit : s.heap.IsRevIter I l ((items.size : Int) - 1)) (hl : s.heap.IsList l items) (S : Addr) (hSl : S ≠ l) (res : Value) (c₀ : Nat) (hS : s.heap.get? S = some { cls := .type "list", data := .seq #[] c₀ })
   (hn : items.size ≤ sizeLine)
   (hR : ∀ h' tk acc' c', (∀ b o, b ≠ S → b ≠ I → s.heap.get? b = some o → h'.get? b = some o) → h'.get? S = some { cls := .type "list", dict := none, data := .seq acc' c', slots := #[] } →
     ItemsOf (fun i v => items[items.size - 1 - i]? = some v) acc' items.size → R (.ok (.ret res)) { s with heap := h', toks := tk }) :
   wpAny (model prog w) A.in1 (Builtin.List.listExtendWith (.ref S) (.ref I) res)
     (fun fin s' => match fin with | .done f => R (.ok f) s' | .again c' => c'.quiet = true ∧ codeAny (model prog w) A c' R s') (fun e s' => R (.error e) s') s := by
 have hSI : S ≠ I := fun e => by
   subst e
   obtain ⟨o, ho, hc, _⟩ := hit
   rw [hS] at ho; cases ho
   exact absurd (show Value.type "list" = Value.type "list_reverseiterator" from hc) (by decide)
 have hSf : S ∉ [I, l] := fun hm => by
   rcases List.mem_cons.mp hm with e | hm
   · exact hSI e
   · exact hSl (List.mem_singleton.mp hm)
 unfold Builtin.List.listExtendWith
 refine wpAny_bind (wpAny_typeOf hit.typeIs ?_)
 have h1 : Builtin.List.listSameRef (.ref S) (.ref I) = false := by simp [Builtin.List.listSameRef, hSI]
 have h2 : (Value.type "list_reverseiterator" == Value.type "list") = false := by decide
 have h3 : (Value.type "list_reverseiterator" == Value.type "tuple") = false := by decide
 simp only [h1, h2, h3, Bool.or_false, Bool.false_eq_true, if_false]
 refine wpAny_bind (wpAny_pyIter_revIter hit ?_)
 refine wpAny_bind (wpAny_holding (hint_rev hit ?_))
 rw [if_neg (by decide)]
 refine wpAny_pure ⟨plainId_quiet F.plain_extend_loop _, codeAny_extend_loopS (Walks.listRev (prog := prog) (w := w) (A := A.in1) hh I l hne items).toS hn _ hSf _ items.size 0 _ _ _ rfl (Nat.zero_le _) ⟨Nat.zero_le _, by simpa using hit, hl⟩ hS (ItemsOf.nil _) fun s' acc' c' hm hS' hacc => ?_⟩
 rw [Moved.eq_with hm]
 refine hR s'.heap s'.toks acc' c' (fun b ob hb hb2 e => hm.heap b ob (fun hmem => ?_) e) hS' hacc
 rcases List.mem_cons.mp hmem with e' | hmem
 · exact hb e'
 · exact hb2 (List.mem_singleton.mp hmem)
end
theorem items_rev {items : List Value} {acc : Array Value} (h : ItemsOf (fun i v => items.toArray[items.toArray.size - 1 - i]? = some v) acc items.toArray.size) : acc.toList = items.reverse := by
 have hz := h.1
 refine List.ext_getElem? fun i => ?_
 by_cases hi : i < items.length
 · have hi' : i < acc.size := by rw [hz]; simpa using hi
   have q := h.2 i acc[i] (by simp [hi'])
   rw [List.getElem?_reverse hi]
   simp only [List.size_toArray, List.getElem?_toArray] at q
   rw [q]
   simp [hi']
 · rw [List.getElem?_eq_none (by rw [Array.length_toList, hz]; simpa using hi), List.getElem?_eq_none (by simpa using hi)]
section
variable {X : Cx} {e : Expr} {te : TE}
end
end L2

set_option Elab.async false
set_option linter.all false
set_option maxRecDepth 100000
set_option maxHeartbeats 4000000
namespace L2
open PySem PySem.Spec PyProof.Rows
def sg (c : Nat) : Str := ⟨#[c]⟩
def Its (z : Str) : It := ⟨fun i _ => i < z.cps.size, fun i H x H' => H' = H ∧ ∃ c, z.cps[i]? = some c ∧ x = .str (sg c), fun i _ => z.cps.size ≤ i⟩
theorem turn_str {P : Program} {w : World} {K : PySem.W.Frag} {tg : Expr} (it : Addr) (z : Str) (t : Tok) : Turn P w K tg (Its z) [it] it (fun i h => h.IsStrIter it (strIterType z) z t i) where
 mem := by simp
 obj := fun i h st b hb => by
   have e : b = it := by simpa using hb
   subst e
   obtain ⟨o, e, c, d⟩ := st
   exact ⟨o, e, fun v z => by rw [d] at z; cases z⟩
 keep := fun i h h' st k => by
   obtain ⟨o, e, r⟩ := st
   exact ⟨o, k it (by simp) o e, r⟩
 item := by
   intro X hP hw hK hc i pins s σ H E I hf st hg
   subst hP hw hK
   obtain ⟨f0, f1, f2, f3, f4, f5⟩ := hf it (by simp)
   have hi : i < z.cps.size := hg
   have hx : z.cps[i]? = some z.cps[i] := by simp [hi]
   cases ha : z.cps.all (· < 128) with
   | true =>
     have et : strIterType z = "str_ascii_iterator" := by simp only [strIterType, ha, if_true]
     rw [et] at st ⊢
     refine wpAny_pyNext_ascii_item st hx fun h' st' sb => ?_
     have I1 : Inv X pins σ H { s with heap := h', toks := s.toks + 1 } := I.turned (fun b o hb e => (sb.2 b hb).trans e) f0 f1 f3 f4 f5
     obtain ⟨o, e, c, d⟩ := id st'
     exact ⟨_, rfl, go_of (s := { s with heap := h', toks := s.toks + 1 }) e c d (by decide) ⟨.str (sg z.cps[i]), H, I1, ⟨_, rfl⟩, ⟨rfl, _, hx, rfl⟩, st', fun b hb => (hf b hb).1⟩⟩
   | false =>
     have et : strIterType z = "str_iterator" := by simp only [strIterType, ha, Bool.false_eq_true, if_false]
     rw [et] at st ⊢
     refine wpAny_pyNext_wide_item st hx fun h' st' sb => ?_
     have I1 : Inv X pins σ H { s with heap := h', toks := s.toks + 1 } := I.turned (fun b o hb e => (sb.2 b hb).trans e) f0 f1 f3 f4 f5
     obtain ⟨o, e, c, d⟩ := id st'
     exact ⟨_, rfl, go_of (s := { s with heap := h', toks := s.toks + 1 }) e c d (by decide) ⟨.str (sg z.cps[i]), H, I1, ⟨_, rfl⟩, ⟨rfl, _, hx, rfl⟩, st', fun b hb => (hf b hb).1⟩⟩
 done := by
   intro X hP hw hK hc i pins s σ H E I hf st hg
   subst hP hw hK
   obtain ⟨f0, f1, f2, f3, f4, f5⟩ := hf it (by simp)
   have hi : z.cps.size ≤ i := hg
   have hx : z.cps[i]? = none := by simp [hi]
   cases ha : z.cps.all (· < 128) with
   | true =>
     have et : strIterType z = "str_ascii_iterator" := by simp only [strIterType, ha, if_true]
     rw [et] at st
     exact wpAny_pyNext_ascii_end (I.ok.hd hc) st hx fun h' eb => ⟨rfl, I.turned (t' := s.toks) (fun b o hb e => eb b o hb e) f0 f1 f3 f4 f5⟩
   | false =>
     have et : strIterType z = "str_iterator" := by simp only [strIterType, ha, Bool.false_eq_true, if_false]
     rw [et] at st
     exact wpAny_pyNext_wide_end (I.ok.hd hc) st hx fun h' eb => ⟨rfl, I.turned (t' := s.toks) (fun b o hb e => eb b o hb e) f0 f1 f3 f4 f5⟩
 self := by
   intro A i s Q E st h
   cases ha : z.cps.all (· < 128) with
   | true =>
     have et : strIterType z = "str_ascii_iterator" := by simp only [strIterType, ha, if_true]
     rw [et] at st
     exact wpAny_pyIter_striter_ascii st h
   | false =>
     have et : strIterType z = "str_iterator" := by simp only [strIterType, ha, Bool.false_eq_true, if_false]
     rw [et] at st
     exact wpAny_pyIter_striter_wide st h
section
variable {X : Cx} {tg : Expr}
def iStr (tl : TE) : TI := fun σ H R => tl σ H fun x H1 => ∃ z, x = .str z ∧ R (Its z) H1
theorem pi_str {l : Expr} {tl : TE} (hl : PE X l tl) : PI X tg l (iStr tl) := by
 intro pins s σ H R I h
 refine thn (hl pins s σ H _ I h) fun v s1 ⟨x, H1, I1, r1, q1⟩ => ?_
 obtain ⟨z, e, q⟩ := q1
 subst e
 obtain ⟨t, rfl⟩ := r1
 refine wpAny_pyIter_strU ?_
 refine ⟨s1.heap.objs.size, [s1.heap.objs.size], _, _, H1, rfl, I1.kept (t' := s1.toks) fun b o e => Heap.get?_push_of_some _ e, turn_str _ z t, ⟨_, Heap.get?_push_size _ rfl, rfl, rfl⟩, fun b hb => ?_, q⟩
 have e : b = s1.heap.objs.size := by simpa using hb
 subst e
 exact I1.fpOk (Nat.le_refl _) (I1.hok.fresh (Nat.le_refl _))
end
theorem for_str {z : Str} {g : TG} {tb : TS} {D : Ends} {σ : St} {H : Hp} (Pv : Nat → St → Hp → Prop) (h0 : Pv 0 σ H)
   (hs : ∀ i c σ H, z.cps.toList[i]? = some c → Pv i σ H → g (.str (sg c)) σ H fun σ2 H2 => tb { D with nx := Pv (i + 1), ct := Pv (i + 1), bk := D.nx } σ2 H2) (hd : ∀ σ H, Pv z.cps.toList.length σ H → D.nx σ H) :
   ∃ W : Nat → Nat → St → Hp → Prop, (∃ m, W 0 m σ H) ∧ ∀ i m σ H, W i m σ H →
     ((Its z).stop i H ∧ D.nx σ H) ∨ ((Its z).go i H ∧ ∃ N : St → Hp → Prop, (∀ σ' H', N σ' H' → ∃ m', m' < m ∧ W (i + 1) m' σ' H') ∧ ∀ x H', (Its z).yld i H x H' → g x σ H' fun σ2 H2 => tb { D with nx := N, ct := N, bk := D.nx } σ2 H2) := by
 refine ⟨fun i m σ H => m = z.cps.size - i ∧ i ≤ z.cps.size ∧ Pv i σ H, ⟨z.cps.size, by simp, Nat.zero_le _, h0⟩, ?_⟩
 rintro i m σ H ⟨rfl, hi, p⟩
 by_cases hlt : i < z.cps.size
 · refine .inr ⟨hlt, Pv (i + 1), fun σ' H' p' => ⟨z.cps.size - (i + 1), by omega, rfl, hlt, p'⟩, fun x H' y => ?_⟩
   obtain ⟨e, c, hc, ex⟩ := y
   subst e ex
   exact hs i c σ _ (by simpa using hc) p
 · have e : i = z.cps.size := by omega
   subst e
   exact .inl ⟨Nat.le_refl _, hd σ H (by simpa using p)⟩
theorem comp_list {K : PySem.W.Frag} {a : Addr} {xs : List V} {g : TG} {tt : TT} {te : TE} {Q : VK} {D : Addr} {τ : St} {H : Hp} (Pv : Nat → List V → St → Hp → Prop) (h0 : Pv 0 [] τ (upd H D (.lst [])))
   (hl : ∀ i ys τ H, i ≤ xs.length → Pv i ys τ H → SqL K H a xs ∧ H D = some (.lst ys))
   (hs : ∀ i x ys τ H, xs[i]? = some x → Pv i ys τ H → g x τ H fun τ2 H2 => tt τ2 H2 fun b H3 => if b = true then te τ2 H3 fun y H4 => H4 D = some (.lst ys) ∧ ys.length < sizeLine ∧ Pv (i + 1) (ys ++ [y]) τ2 (upd H4 D (.lst (ys ++ [y]))) else Pv (i + 1) ys τ2 H3)
   (hd : ∀ ys τ H, Pv xs.length ys τ H → Q (.ref D) H) :
   CompR (Itl K a) g tt te Q D τ H := by
 refine ⟨fun i m ys τ H => m = xs.length - i ∧ i ≤ xs.length ∧ Pv i ys τ H, ⟨xs.length, by simp, Nat.zero_le _, h0⟩, ?_⟩
 rintro i m ys τ H ⟨rfl, hi, p⟩
 obtain ⟨q, hD⟩ := hl i ys τ H hi p
 refine ⟨hD, ?_⟩
 by_cases hlt : i < xs.length
 · refine .inr ⟨⟨xs, xs[i], q, by simp [hlt]⟩, Pv (i + 1), fun zs σ' H' p' => ⟨xs.length - (i + 1), by omega, rfl, hlt, p'⟩, fun x H' y => ?_⟩
   obtain ⟨e, y⟩ := y
   subst e
   exact hs i x ys τ _ (y xs q) p
 · have e : i = xs.length := by omega
   subst e
   exact .inl ⟨⟨xs, q, Nat.le_refl _⟩, hd ys τ H p⟩
theorem comp_str {z : Str} {g : TG} {tt : TT} {te : TE} {Q : VK} {D : Addr} {τ : St} {H : Hp} (Pv : Nat → List V → St → Hp → Prop) (h0 : Pv 0 [] τ (upd H D (.lst [])))
   (hl : ∀ i ys τ H, i ≤ z.cps.toList.length → Pv i ys τ H → H D = some (.lst ys))
   (hs : ∀ i c ys τ H, z.cps.toList[i]? = some c → Pv i ys τ H → g (.str (sg c)) τ H fun τ2 H2 => tt τ2 H2 fun b H3 => if b = true then te τ2 H3 fun y H4 => H4 D = some (.lst ys) ∧ ys.length < sizeLine ∧ Pv (i + 1) (ys ++ [y]) τ2 (upd H4 D (.lst (ys ++ [y]))) else Pv (i + 1) ys τ2 H3)
   (hd : ∀ ys τ H, Pv z.cps.toList.length ys τ H → Q (.ref D) H) :
   CompR (Its z) g tt te Q D τ H := by
 have hz : z.cps.toList.length = z.cps.size := by simp
 refine ⟨fun i m ys τ H => m = z.cps.size - i ∧ i ≤ z.cps.size ∧ Pv i ys τ H, ⟨z.cps.size, by simp, Nat.zero_le _, h0⟩, ?_⟩
 rintro i m ys τ H ⟨rfl, hi, p⟩
 refine ⟨hl i ys τ H (by omega) p, ?_⟩
 by_cases hlt : i < z.cps.size
 · refine .inr ⟨hlt, Pv (i + 1), fun zs σ' H' p' => ⟨z.cps.size - (i + 1), by omega, rfl, hlt, p'⟩, fun x H' y => ?_⟩
   obtain ⟨e, c, hc, ex⟩ := y
   subst e ex
   exact hs i c ys τ _ (by simpa using hc) p
 · have e : i = z.cps.size := by omega
   subst e
   exact .inl ⟨Nat.le_refl _, hd ys τ H (by rw [hz]; exact p)⟩
section
variable {X : Cx}
theorem call_isinst : CallR X (.builtin "isinstance") (fun xs H Q => ∃ x c t b, xs = [x, c] ∧ TyOf X.K H x t ∧ ((∃ n, c = .ty n ∧ PySem.W.kitOne X.K t (.type n) = some b) ∨ (∃ a, c = .ref a ∧ PySem.W.kitOne X.K t (.ref a) = some b)) ∧ Q (.bl b) H) := by
 intro pins s σ H xs us Q I r h
 obtain ⟨x, c, t, b, rfl, ty, hc, q⟩ := h
 obtain ⟨u, w', rfl, ru, rw'⟩ := vals2 r
 rcases hc with ⟨n, rfl, e⟩ | ⟨a, rfl, e⟩
 · cases rw'
   exact isinst_ok I ru ty e fun tk => ⟨.bl b, H, I.tok tk, rfl, q⟩
 · cases rw'
   exact isinst_ok I ru ty e fun tk => ⟨.bl b, H, I.tok tk, rfl, q⟩
end
theorem sg_len (c : Nat) : (sg c).length = 1 := rfl
theorem str_app (a b : List Nat) : (⟨a.toArray⟩ : Str) ++ (⟨b.toArray⟩ : Str) = ⟨(a ++ b).toArray⟩ := by
 show Str.mk (a.toArray ++ b.toArray) = _
 simp
section
variable {X : Cx}
def rNeL (K : PySem.W.Frag) : R2 := fun x y H Q => ∃ a b xs, x = .ref a ∧ y = .ref b ∧ SqL K H a xs ∧ SqL K H b [] ∧ Q (.bl (!xs.isEmpty)) H
theorem op_neL (hu : X.A.units < cLine) : OpR X (compareOp .NotEq) (rNeL X.K) := by
 intro pins s σ H x y v u Q I rx ry h
 obtain ⟨a, b, xs, rfl, rfl, ha, hb, q⟩ := h
 cases rx
 cases ry
 obtain ⟨its, r1, p1, _⟩ := I.list ha
 obtain ⟨its2, r2, p2, _⟩ := I.list hb
 cases r2
 show wpAny _ _ (richCompare .NotEq (.ref a) (.ref b)) _ _ _
 cases xs with
 | nil =>
   cases r1
   refine SeqAt.RcNeAt.lists (e := fun _ => true) p1.isList p2.isList rfl hu (fun j h1 _ => absurd h1 (by simp)) _ _ _ _ ⟨.bl false, H, I, ?_, q⟩
   simp [RelV]
 | cons x xs =>
   cases r1 with
   | cons r rr =>
     exact SeqAt.RcNeAt.lists_lengths p1.isList p2.isList (by simp) hu _ _ _ _ ⟨.bl true, H, I, rfl, q⟩
end
end L2

set_option Elab.async false
set_option linter.all false
set_option maxRecDepth 100000
set_option maxHeartbeats 4000000
namespace L2
open PySem PySem.Spec PyProof.Rows
section
variable {X : Cx} (K : PySem.W.Frag) (h : X.K = K)
include h
theorem ixK_list : IxR X (rIxL K) := by subst h; exact ix_list
theorem ixK_tup : IxR X (rIxT K) := by subst h; exact ix_tup
theorem slK_list : SlR X (rSlL K) := by subst h; exact sl_list
theorem callK_len_seq : CallR X (.builtin "len") (fun xs H Q => ∃ p ys, xs = [.ref p] ∧ (SqL K H p ys ∨ SqT K H p ys) ∧ Q (.int ys.length) H) := by subst h; exact call_len_seq
theorem callK_isinst : CallR X (.builtin "isinstance") (fun xs H Q => ∃ x c t b, xs = [x, c] ∧ TyOf K H x t ∧ ((∃ n, c = .ty n ∧ PySem.W.kitOne K t (.type n) = some b) ∨ (∃ a, c = .ref a ∧ PySem.W.kitOne K t (.ref a) = some b)) ∧ Q (.bl b) H) := by subst h; exact call_isinst
theorem opK_neL (hu : X.A.units < cLine) : OpR X (compareOp .NotEq) (rNeL K) := by subst h; exact op_neL hu
theorem piK_list {tg l : Expr} {tl : TE} (hl : PE X l tl) : PI X tg l (iList K tl) := by subst h; exact pi_list hl
theorem piK_tup {tg l : Expr} {tl : TE} (hl : PE X l tl) : PI X tg l (iTup K tl) := by subst h; exact pi_tup hl
theorem pgK_tup {es : List Expr} {k : Nat} {pos : Pos} {t : TGs} (n : Nat) (hc : X.calm = true) (hh : PGs X es t)
 (hn : (assignEach es X.env).length = n := by rfl) (hst : (assignEach es X.env).findIdx? (·.1) = none := by rfl) : PG X (.Tuple es k pos) (gTup K n t) := by subst h; exact pg_tup hc hh hn hst
theorem peK_fld {e : Expr} {ta : TE} {f : Str} {pos : Pos} (he : PE X e ta) (hb : attributeBase e f X.env (eval e X.env) = eval e X.env) : PE X (.Attribute e f pos) (tFld K ta f) := by subst h; exact pe_fld he hb
theorem peK_bm {o e : Expr} {es : List Expr} {to : TE} {t : TA} {name : Str} {apos cpos : Pos} {T id : String} {r : V → List V → Hp → VK → Prop} (pa : PlainAttrs T) (slot : Slot T name id) (hty : typeOf (.builtin id) = pure (.type "method_descriptor")) (hm : MtR X id r) (ho : PE X o to) (ha : PA X (e :: es) t)
 (hbase : attributeBase o name X.env (eval o X.env) = eval o X.env := by rfl)
 (hfew : ((backTo cpos (starEach (e :: es) X.env)).all (fun x => !x.1) && (backToKw cpos (keywordEach [] X.env)).all (fun x => x.1.isSome)
   && decide ((e :: es).length + ([] : List Keyword).length + (if ([] : List Keyword).isEmpty then 0 else 1) < 30)) = true := by rfl)
 (hline : (apos.endLine == cpos.line) = true := by rfl) (hs : starEach (e :: es) X.env = (false, eval e X.env) :: starEach es X.env := by rfl) (hplain : (backTo cpos (starEach es X.env)).any (·.1) = false := by rfl) :
 PE X (.Call (.Attribute o name apos) (e :: es) [] cpos) (tBM K T r to t) := by subst h; exact pe_bm pa slot hty hm ho ha hbase hfew hline hs hplain
end
section
variable {X : Cx}
theorem pe_gstr {x : Str} {z : Str} {t : Tok} {pos : Pos} (hg : Gl X x) (hm : X.mg x = some (.str z t)) (hd : (x == ("__debug__" : Str)) = false := by decide) : PE X (.Name x pos) (tC (.str z)) := pe_glob hg hm ⟨t, rfl⟩ hd
theorem pe_gref {x : Str} {a : Addr} {pos : Pos} (hg : Gl X x) (hm : X.mg x = some (.ref a)) (hd : (x == ("__debug__" : Str)) = false := by decide) : PE X (.Name x pos) (tC (.ref a)) := pe_glob hg hm rfl hd
theorem pe_bty (n : String) {x : Str} {pos : Pos} (hg : Gl X x) (hm : X.mg x = none) (hv : bootBuiltins x = some (.type n)) (hn : x ≠ "__name__" := by decide) (hd : (x == ("__debug__" : Str)) = false := by decide) : PE X (.Name x pos) (tC (.ty n)) := pe_bltn hg hm hv rfl hn hd
end
end L2

set_option Elab.async false
set_option linter.all false
set_option maxRecDepth 100000
set_option maxHeartbeats 4000000
namespace L2
open PySem PySem.Spec PyProof.Rows
structure FunD (K : PySem.W.Frag) (x qual : Str) (st : Stmt) (f : Addr) (fd : FuncData) (dV : Value) : Prop where
 ex : ∃ (oc : Value) (od : Option Addr) (kV doc pm : Value) (an : Option Addr) (cdv ct : Value) (osl : Array (Option Value)),
   fd = PySem.W.fnOf x qual (defArgs st) (defBody st) (defScope st) dV kV doc pm an cdv ct ∧ K.lookup f = some ⟨oc, od, .func fd, osl⟩ ∧ PySem.W.codeIn K cdv qual = true
 kp : PySem.W.keepIn K (.ref f) = true
section
variable {P : Program} {w : World} {K : PySem.W.Frag} {mg : Str → Option Value} {base : Heap}
theorem FunD.ok {x qual : Str} {st : Stmt} {f : Addr} {fd : FuncData} {dV : Value} {N ps : List Str} {k : Nat} {sp : Sp} (F : FunD K x qual st f fd dV) (S : FnScope N ps (defScope st)) (len : ∀ vs H Q E, sp vs H Q E → vs.length = ps.length)
   (hbody : ∀ (cdv : Value) (A : Around) (outer : List Env) (s : Shared) (H : Hp) (vs : List V) (Q : VK) (E : XK), Room k (A.deeper (envOfC qual (defScope st) s.heap.objs.size f cdv)) → sp vs H Q E →
     ∃ t, PSs (cxOf CX0 P w K mg base N qual (defScope st) f cdv A outer s H E).nox (defBody st) t ∧ t { nx := fun _ H' => Q .non H', rt := Q } (start N vs) H) : FnOk P w K mg base CX0 (k + 1) f fd ps sp := by
 obtain ⟨oc, od, kV, doc, pm, an, cdv, ct, osl, rfl, lk, hcd⟩ := F.ex
 refine fn_of lk hcd S len fun A outer s H vs Q E hr hsp => ?_
 obtain ⟨t, h, q⟩ := hbody cdv A outer s H vs Q E hr hsp
 exact ⟨t, h.nox, q⟩
theorem FunD.binds {x qual : Str} {st : Stmt} {f : Addr} {fd : FuncData} {dV : Value} {ps : List Str} (F : FunD K x qual st f fd dV)
   (h : ∀ (kV doc pm : Value) (an : Option Addr) (cdv ct : Value) (us : List Value), us.length = ps.length → bindArgs (PySem.W.fnOf x qual (defArgs st) (defBody st) (defScope st) dV kV doc pm an cdv ct) ⟨us, []⟩ = pure (ps.zip us)) : Binds K fd ps [] := by
 obtain ⟨oc, od, kV, doc, pm, an, cdv, ct, osl, rfl, lk, hcd⟩ := F.ex
 exact .all (h kV doc pm an cdv ct)
theorem funD_mk {x qual : Str} {st : Stmt} {f : Addr} {oc dV : Value} {od an : Option Addr} {osl : Array (Option Value)} {kV doc pm cdv ct : Value} (l : K.lookup f = some ⟨oc, od, .func (PySem.W.fnOf x qual (defArgs st) (defBody st) (defScope st) dV kV doc pm an cdv ct), osl⟩)
 (c : PySem.W.codeIn K cdv qual = true) (k : PySem.W.keepIn K (.ref f) = true) : FunD K x qual st f (PySem.W.fnOf x qual (defArgs st) (defBody st) (defScope st) dV kV doc pm an cdv ct) dV := ⟨⟨oc, od, kV, doc, pm, an, cdv, ct, osl, rfl, l, c⟩, k⟩
end
section
variable {X : Cx}
theorem vals_bl_get : ∀ {bs : List Bool} {us : List Value} {i : Nat} {u : Value}, Vals (bs.map V.bl) us → us[i]? = some u → u = .bool (bs.getD i true)
 | [], _, _, _, r, e => by cases r; simp at e
 | b :: bs, _, i, u, r, e => by
   cases r with
   | cons r1 r2 =>
     cases i with
     | zero => simp at e; subst e; exact r1
     | succ i => simp at e; simpa using vals_bl_get r2 e
theorem all_range (bs : List Bool) : ((List.range bs.length).all fun i => bs.getD i true) = bs.all id := by
 rw [Bool.eq_iff_iff, List.all_eq_true, List.all_eq_true]
 constructor
 · intro h b hb
   obtain ⟨i, hi, rfl⟩ := List.mem_iff_getElem.mp hb
   have := h i (by simpa using hi)
   simpa [List.getD, hi] using this
 · intro h i hi
   have hi' : i < bs.length := by simpa using hi
   have := h bs[i] (List.getElem_mem hi')
   simpa [List.getD, hi'] using this
def rAll (K : PySem.W.Frag) : List V → Hp → VK → Prop := fun xs H Q => ∃ (p : Addr) (bs : List Bool), xs = [.ref p] ∧ SqL K H p (bs.map V.bl) ∧ Q (.bl (bs.all id)) H
theorem call_all (hc : X.calm = true) : CallR X (.builtin "all") (rAll X.K) := by
 intro pins s σ H xs us Q I r h
 obtain ⟨p, bs, rfl, hq, q⟩ := h
 obtain ⟨u, rfl, ru⟩ := vals1 r
 cases ru
 obtain ⟨its, rv, pl, hz⟩ := I.list hq
 have hlen := rv.length
 rw [List.length_map] at hlen
 have hpl : p < s.heap.objs.size := by obtain ⟨o, ho, _⟩ := pl.isList; exact Heap.lt_size ho
 refine call_all_walk (wpAny_pyIter_list pl.isList ⟨s.heap.objs.size, _, _, _, _, _, fun i => bs.getD i true, rfl, Walks.list (A := X.A.in1) (show X.A.in1.handled = none from I.ok.hd hc) s.heap.objs.size p (Nat.ne_of_lt hpl) its.toArray, ⟨⟨_, Heap.get?_push_size _ rfl, rfl, rfl⟩, pl.isList.at fun o e => Heap.get?_push_of_some _ e⟩, ?_, ?_⟩)
 · intro i v s' Q' E' hv hq'
   have e : its[i]? = some v := by simpa using hv
   rw [vals_bl_get rv e]
   exact wpAny_truthy_bool hq'
 · intro h' tk hk
   have f0 := I.fpOk (Nat.le_refl s.heap.objs.size) (I.hok.fresh (Nat.le_refl _))
   have I2 : Inv X pins σ H { s with heap := s.heap.push { cls := .type "list_iterator", data := .fields #[.ref p, rawInt 0] } } := I.kept (t' := s.toks) fun b o e => Heap.get?_push_of_some _ e
   have I3 := I2.turned (h' := h') (t' := tk) (it := s.heap.objs.size) (fun b o hb e => hk b o (by simpa using hb) e) f0.1 f0.2.1 f0.2.2.2.1 f0.2.2.2.2.1 f0.2.2.2.2.2
   refine ⟨.bl (bs.all id), H, I3, ?_, q⟩
   show Value.bool _ = Value.bool _
   rw [List.size_toArray, ← hlen, all_range]
theorem callK_all (K : PySem.W.Frag) (h : X.K = K) (hc : X.calm = true) : CallR X (.builtin "all") (rAll K) := by subst h; exact call_all hc
def rCount : V → List V → Hp → VK → Prop := fun x vs H Q => ∃ (z : Str) (c : Nat), x = .str z ∧ vs = [.str (sg c)] ∧ Q (.int (PyProof.Rows.cnt c z.cps.toList)) H
theorem mt_count : MtR X "str.count" rCount := by
 intro pins s σ H x vs v us Q I rx rv h
 obtain ⟨z, c, rfl, rfl, q⟩ := h
 obtain ⟨t, rfl⟩ := rx
 obtain ⟨u, rfl, ru⟩ := rv.one
 obtain ⟨t', rfl⟩ := ru
 exact SC.count ⟨.int _, H, I.tok _, ⟨_, rfl⟩, by
   have e : Txt.count z (sg c) = PyProof.Rows.cnt c z.cps.toList := PyProof.Rows.count_is z c
   rw [e]; exact q⟩
theorem cnt_one : ∀ {l : List Nat} {c : Nat}, l.Nodup → c ∈ l → PyProof.Rows.cnt c l = 1
 | [], _, _, h => by cases h
 | n :: r, c, nd, h => by
   rw [PyProof.Rows.cnt_cons]
   obtain ⟨n1, n2⟩ := List.nodup_cons.mp nd
   by_cases e : n = c
   · subst e
     rw [if_pos rfl, PyProof.Rows.cnt_none _ _ n1]; rfl
   · rw [if_neg e, cnt_one n2 ((List.mem_cons.mp h).resolve_left (Ne.symm e))]; rfl
theorem eqV_self : ∀ {x : V}, flatV x = true → eqV x x = true
 | .non, _ => rfl
 | .bl b, _ => by cases b <;> rfl
 | .int i, _ => by simp [eqV]
 | .str z, _ => by simp [eqV]
end
end L2

set_option Elab.async false
set_option linter.all false
set_option maxRecDepth 100000
set_option maxHeartbeats 4000000
namespace L2
open PySem PySem.Spec PyProof.Rows
inductive SameD (K : PySem.W.Frag) (H : Hp) : Nat → V → V → Prop where
 | flat {n : Nat} {x y : V} : flatV x = true → flatV y = true → eqV x y = true → SameD K H n x y
 | ref {n : Nat} {a : Addr} : SameD K H n (.ref a) (.ref a)
 | tup {n : Nat} {a b : Addr} {xs ys : List V} : SqT K H a xs → SqT K H b ys → xs.length = ys.length → (∀ (j : Nat) x y, xs[j]? = some x → ys[j]? = some y → SameD K H n x y) → SameD K H (n + 1) (.ref a) (.ref b)
 | lst {n : Nat} {a b : Addr} {xs ys : List V} : SqL K H a xs → SqL K H b ys → xs.length = ys.length → (∀ (j : Nat) x y, xs[j]? = some x → ys[j]? = some y → SameD K H n x y) → SameD K H (n + 1) (.ref a) (.ref b)
theorem all_true (n : Nat) : (List.range n).all (fun _ => true) = true := by rw [List.all_eq_true]; intro _ _; rfl
section
variable {X : Cx} {pins : List (Addr × Obj)} {σ : St} {H : Hp} {s : Shared}
theorem items_same {A : Around} {R : V → V → Prop} {xs ys : List V} {us ws : List Value} (r1 : Vals xs us) (r2 : Vals ys ws) (h : ∀ (j : Nat) x y u w, xs[j]? = some x → ys[j]? = some y → RelV x u → RelV y w → SeqAt.EqAt A s u w true) (j : Nat) (h1 : j < us.toArray.size) (h2 : j < ws.toArray.size) :
   SeqAt.EqAt A s us.toArray[j] ws.toArray[j] true := by
 have hl1 := r1.length
 have hl2 := r2.length
 have hj1 : j < xs.length := by rw [hl1]; simpa using h1
 have hj2 : j < ys.length := by rw [hl2]; simpa using h2
 obtain ⟨u, eu, ru⟩ := r1.get (i := j) (x := xs[j]) (by simp [hj1])
 obtain ⟨w, ew, rw'⟩ := r2.get (i := j) (x := ys[j]) (by simp [hj2])
 have e1 : us.toArray[j] = u := by
   obtain ⟨_, q⟩ := List.getElem?_eq_some_iff.mp eu
   simpa using q
 have e2 : ws.toArray[j] = w := by
   obtain ⟨_, q⟩ := List.getElem?_eq_some_iff.mp ew
   simpa using q
 rw [e1, e2]
 exact h j _ _ u w (by simp [hj1]) (by simp [hj2]) ru rw'
theorem eqAt_same (I : Inv X pins σ H s) {n : Nat} {x y : V} (h : SameD X.K H n x y) : ∀ {A : Around} {u v : Value}, A.units + n < cLine → RelV x u → RelV y v → SeqAt.EqAt A s u v true := by
 induction h with
 | flat f1 f2 e => intro A u v _ ru rv; rw [← e]; exact eqAt_V ru rv f1 f2
 | ref => intro A u v _ ru rv; cases ru; cases rv; exact SeqAt.EqAt.same _
 | @tup n a b xs ys ha hb hl _ ih =>
   intro A u v hu ru rv
   cases ru; cases rv
   by_cases e : a = b
   · subst e; exact SeqAt.EqAt.same _
   · obtain ⟨its, r1, p1, _⟩ := I.tuple ha
     obtain ⟨its2, r2, p2, _⟩ := I.tuple hb
     refine SeqAt.EqAt.of_refs e ?_
     have q := SeqAt.RcAt.tuples (A := A) (e := fun _ => true) p1 p2 (by omega) fun j h1 h2 => items_same (R := fun _ _ => True) r1 r2 (fun j x y u w ex ey ru rw' => ih j x y ex ey (by show A.units + 1 + n < cLine; omega) ru rw') j h1 h2
     have e2 : ((List.range (min its.toArray.size its2.toArray.size)).all (fun _ => true) && its.toArray.size == its2.toArray.size) = true := by
       rw [all_true, List.size_toArray, List.size_toArray, ← r1.length, ← r2.length, hl]; simp
     rw [e2] at q
     exact q
 | @lst n a b xs ys ha hb hl _ ih =>
   intro A u v hu ru rv
   cases ru; cases rv
   by_cases e : a = b
   · subst e; exact SeqAt.EqAt.same _
   · obtain ⟨its, r1, p1, _⟩ := I.list ha
     obtain ⟨its2, r2, p2, _⟩ := I.list hb
     refine SeqAt.EqAt.of_refs e ?_
     have q := SeqAt.RcAt.lists (A := A) (e := fun _ => true) p1.isList p2.isList (by rw [List.size_toArray, List.size_toArray, ← r1.length, ← r2.length, hl]) (by omega) fun j h1 h2 => items_same (R := fun _ _ => True) r1 r2 (fun j x y u w ex ey ru rw' => ih j x y ex ey (by show A.units + 1 + n < cLine; omega) ru rw') j h1 h2
     rw [all_true] at q
     exact q
end
section
variable {X : Cx}
def TopD (K : PySem.W.Frag) (H : Hp) (x y : V) : Prop := ∃ (n : Nat) (a b : Addr) (xs ys : List V), x = .ref a ∧ y = .ref b ∧ n ≤ 50 ∧ xs.length = ys.length ∧ ((SqT K H a xs ∧ SqT K H b ys) ∨ (SqL K H a xs ∧ SqL K H b ys)) ∧ ∀ (j : Nat) x y, xs[j]? = some x → ys[j]? = some y → SameD K H n x y
def rEqS (K : PySem.W.Frag) : R2 := fun x y H Q => TopD K H x y ∧ Q (.bl true) H
def rNeS (K : PySem.W.Frag) : R2 := fun x y H Q => TopD K H x y ∧ Q (.bl false) H
theorem op_eqS (K : PySem.W.Frag) (hK : X.K = K) (hu : X.A.units + 64 < cLine) : OpR X (compareOp .Eq) (rEqS K) := by
 subst hK
 intro pins s σ H x y v u Q I rx ry h
 obtain ⟨⟨n, a, b, xs, ys, rfl, rfl, hn, hl, hk, hs⟩, q⟩ := h
 cases rx; cases ry
 rcases hk with ⟨ha, hb⟩ | ⟨ha, hb⟩
 · obtain ⟨its, r1, p1, _⟩ := I.tuple ha
   obtain ⟨its2, r2, p2, _⟩ := I.tuple hb
   refine SeqAt.eq_tupleAt (e := fun _ => true) p1 p2 (by omega) (fun j h1 h2 => items_same (R := fun _ _ => True) r1 r2 (fun j x y u w ex ey ru rw' => eqAt_same I (hs j x y ex ey) (by show X.A.units + 1 + n < cLine; omega) ru rw') j h1 h2) ⟨.bl true, H, I, ?_, q⟩
   show Value.bool _ = Value.bool _
   rw [all_true, List.size_toArray, List.size_toArray, ← r1.length, ← r2.length, hl]; simp
 · obtain ⟨its, r1, p1, _⟩ := I.list ha
   obtain ⟨its2, r2, p2, _⟩ := I.list hb
   refine SeqAt.eq_listAt (e := fun _ => true) p1.isList p2.isList (by rw [List.size_toArray, List.size_toArray, ← r1.length, ← r2.length, hl]) (by omega) (fun j h1 h2 => items_same (R := fun _ _ => True) r1 r2 (fun j x y u w ex ey ru rw' => eqAt_same I (hs j x y ex ey) (by show X.A.units + 1 + n < cLine; omega) ru rw') j h1 h2) ⟨.bl true, H, I, ?_, q⟩
   show Value.bool _ = Value.bool _
   rw [all_true]
theorem op_neS (K : PySem.W.Frag) (hK : X.K = K) (hu : X.A.units + 64 < cLine) : OpR X (compareOp .NotEq) (rNeS K) := by
 subst hK
 intro pins s σ H x y v u Q I rx ry h
 obtain ⟨⟨n, a, b, xs, ys, rfl, rfl, hn, hl, hk, hs⟩, q⟩ := h
 cases rx; cases ry
 show wpAny _ _ (richCompare .NotEq (.ref a) (.ref b)) _ _ _
 rcases hk with ⟨ha, hb⟩ | ⟨ha, hb⟩
 · obtain ⟨its, r1, p1, _⟩ := I.tuple ha
   obtain ⟨its2, r2, p2, _⟩ := I.tuple hb
   refine SeqAt.RcNeAt.tuples (e := fun _ => true) p1 p2 (by omega) (fun j h1 h2 => items_same (R := fun _ _ => True) r1 r2 (fun j x y u w ex ey ru rw' => eqAt_same I (hs j x y ex ey) (by show X.A.units + 1 + n < cLine; omega) ru rw') j h1 h2) _ _ _ _ ⟨.bl false, H, I, ?_, q⟩
   show Value.bool _ = Value.bool _
   rw [all_true, List.size_toArray, List.size_toArray, ← r1.length, ← r2.length, hl]; simp
 · obtain ⟨its, r1, p1, _⟩ := I.list ha
   obtain ⟨its2, r2, p2, _⟩ := I.list hb
   refine SeqAt.RcNeAt.lists (e := fun _ => true) p1.isList p2.isList (by rw [List.size_toArray, List.size_toArray, ← r1.length, ← r2.length, hl]) (by omega) (fun j h1 h2 => items_same (R := fun _ _ => True) r1 r2 (fun j x y u w ex ey ru rw' => eqAt_same I (hs j x y ex ey) (by show X.A.units + 1 + n < cLine; omega) ru rw') j h1 h2) _ _ _ _ ⟨.bl false, H, I, ?_, q⟩
   show Value.bool _ = Value.bool _
   rw [all_true]; rfl
def rIsSeq (K : PySem.W.Frag) : List V → Hp → VK → Prop := fun xs H Q => ∃ (a : Addr) (c : String) (ys : List V) (b : Bool), xs = [.ref a, .ty c] ∧ ((SqT K H a ys ∧ PySem.W.kitOne K (.type "tuple") (.type c) = some b) ∨ (SqL K H a ys ∧ PySem.W.kitOne K (.type "list") (.type c) = some b)) ∧ Q (.bl b) H
theorem callK_isseq (K : PySem.W.Frag) (hK : X.K = K) : CallR X (.builtin "isinstance") (rIsSeq K) := by
 subst hK
 intro pins s σ H xs us Q I r h
 obtain ⟨a, c, ys, b, rfl, hk, q⟩ := h
 obtain ⟨u, w', rfl, ru, rw'⟩ := vals2 r
 cases ru; cases rw'
 have fin : ∀ tk, EP X pins σ Q (.bool b) { s with toks := tk } := fun tk => ⟨.bl b, H, I.tok tk, rfl, q⟩
 rcases hk with ⟨ha, e⟩ | ⟨ha, e⟩
 · obtain ⟨its, r1, p1, _⟩ := I.tuple ha
   obtain ⟨o, h1, h2, _⟩ := p1
   exact PySem.W.kia_one PySem.W.kitx_tuple I.kIn ⟨o, h1, h2⟩ e (fun z => nomatch z) fin
 · obtain ⟨its, r1, p1, _⟩ := I.list ha
   obtain ⟨o, h1, h2, _⟩ := p1.isList
   exact PySem.W.kia_one PySem.W.kitx_list I.kIn ⟨o, h1, h2⟩ e (fun z => nomatch z) fin
end
end L2
namespace L2
open PySem PySem.Spec PyProof.Rows
section
variable {X : Cx}
theorem pe_gint {x : Str} {z : Int} {t : Tok} {pos : Pos} (hg : Gl X x) (hm : X.mg x = some (.int z t)) (hd : (x == ("__debug__" : Str)) = false := by decide) : PE X (.Name x pos) (tC (.int z)) := pe_glob hg hm ⟨t, rfl⟩ hd
end
end L2

set_option Elab.async false
set_option linter.all false
set_option maxRecDepth 100000
set_option maxHeartbeats 4000000
namespace L2
open PySem PySem.Spec PyProof.Rows
section
variable {X : Cx} {CX : CXT} {k : Nat} {f C : Addr} {fd : FuncData} {ps ks : List Str} {sp : Sp} {E : XK} {x m : Str} {p pos apos kpos : Pos} {e o : Expr} {es : List Expr} {kws : List Keyword} {te ta : TE} {t tk : TA} {nm : Option Str}
 {g : List Value → List Value → List Value} {gV : List V → List V → List V}
end
section
variable {X : Cx} {pins : List (Addr × Obj)} {σ : St} {H : Hp} {s : Shared}
end
section
variable {X : Cx}
end
end L2
namespace L2
open PySem PySem.Spec PyProof.Rows
end L2

set_option Elab.async false
set_option linter.all false
set_option maxRecDepth 100000
set_option maxHeartbeats 4000000
namespace L2
open PySem PySem.Spec PyProof.Rows
section
variable {X : Cx} {pins : List (Addr × Obj)} {σ : St} {H : Hp} {s : Shared} {h' : Heap}
theorem Inv.turnedL {t' : Nat} {wr : List Addr} (I : Inv X pins σ H s) (k : ∀ b o, b ∉ wr → s.heap.get? b = some o → h'.get? b = some o) (hf : ∀ it ∈ wr, FpOk X pins H it) : Inv X pins σ H { s with heap := h', toks := t' } := by
 have nit : ∀ b u, H b = some u → b ∉ wr := fun b u e z => by rw [(hf b z).1] at e; cases e
 have hL : X.env.locals ∉ wr := fun z => (hf _ z).2.1 rfl
 refine I.step (g' := s.gens) (d' := s.drawn) (ch := wr) (fun b hb => ?_) (fun b o _ _ hc e _ => k b o hc e) (fun b o _ _ hc e _ => ⟨o.slots, k b o hc e⟩) (fun _ _ _ _ n => n)
   (fun b o hc e => ⟨o, k b o hc e⟩) (fun _ _ e => e) (fun _ _ _ e => e) (fun b ps e => ⟨#[], by rw [e]; simp⟩) (fun m hm => ?_) (fun b u e => ?_) I.bare
 · obtain ⟨f0, f1, f2, f3, f4, f5⟩ := hf b hb
   exact ⟨f3, f1, f4, f5⟩
 · obtain ⟨o, es, ep, ho, r⟩ := hm
   exact ⟨o, es, ep, k _ o hL ho, r⟩
 · refine (I.hok b u e).stay (fun c v hc q => k c v ?_ q) (fun _ q => q) fun _ _ q => q
   rcases hc with z | z
   · rw [z]; exact nit b u e
   · exact nit c _ z
end
def hmid (h h2 : Heap) : Heap := ⟨h.objs ++ (h2.objs.toList.drop h.objs.size).toArray, h2.life⟩
theorem mid_lt {h h2 : Heap} {a : Addr} (ha : a < h.objs.size) : (hmid h h2).get? a = h.get? a := by
 have e : (hmid h h2).objs[a]? = h.objs[a]? := Array.getElem?_append_left ha
 unfold Heap.get?
 rw [e]
theorem mid_ge {h h2 : Heap} {a : Addr} (ha : h.objs.size ≤ a) : (hmid h h2).get? a = h2.get? a := by
 have e : (hmid h h2).objs[a]? = h2.objs[a]? := by
   show (h.objs ++ (h2.objs.toList.drop h.objs.size).toArray)[a]? = _
   rw [Array.getElem?_append_right ha, List.getElem?_toArray, List.getElem?_drop, Array.getElem?_toList]
   congr 1
   omega
 unfold Heap.get?
 rw [e]
theorem walk_item {X : Cx} {pins : List (Addr × Obj)} {σ : St} {H : Hp} {s : Shared} {E : Value → Shared → Prop} {it : Addr} {fpW wr fp : List Addr} {n : Nat} {Pt : Nat → Array Value → Prop} {St' : Nat → Heap → Prop} {Mid : Nat → Addr → Heap → Prop} {elts : List Expr} {k : Nat} {pos : Pos} {J : It} {tn : Nat → Heap → Prop} {i : Nat}
   (W : WalksT X.prog X.w X.A it fpW wr n Pt St' Mid) (I : Inv X pins σ H s) (hfp : ∀ b ∈ fp, FpOk X pins H b) (hwr : ∀ b ∈ wr, b ∈ fp) (hsz : ∀ b ∈ fp, b < s.heap.objs.size) (hi : i < n) (hst : St' i s.heap)
   (hv : ∀ vals, Pt i vals → ∃ vs : List V, vs.length ≤ sizeLine ∧ Vals vs vals.toList ∧ ∀ T, H T = none → J.yld i H (.ref T) (upd H T (.tup vs))) (htn : ∀ h, St' (i + 1) h → tn (i + 1) h) :
   wpAny (model X.prog X.w) X.A (pyNext (.ref it)) (fun r s1 => ∃ u, r = some u ∧
     wpAny (model X.prog X.w) X.A (letOwnedTupleGo (.Tuple elts k pos) (.ref it) u) (fun _ s2 => ∃ x H', Inv X pins σ H' s2 ∧ RelV x u ∧ J.yld i H x H' ∧ tn (i + 1) s2.heap ∧ ∀ b ∈ fp, H' b = none) E s1) E s := by
 refine W.item i s _ E hi hst fun T vals h1 tk hPt hT hTup hMid hk => ⟨.ref T, rfl, ?_⟩
 have hap := W.apart i T h1 hMid
 refine W.go elts k pos i T _ _ E hMid fun h2 hSt hk2 => ?_
 obtain ⟨vs, hlen, hvals, hy⟩ := hv vals hPt
 have hTn : H T = none := I.hok.fresh hT
 obtain ⟨o, ho, hoc, m, hod⟩ := hTup
 have ho2 : h2.get? T = some o := hk2 T o hap ho
 have I1 : Inv X pins σ (upd H T (.tup vs)) { s with heap := hmid s.heap h2, toks := tk } := by
   refine I.laid (fun b u e => (mid_lt (Heap.lt_size e)).trans e) hT ?_
   refine ⟨hlen, vals.toList, hvals, ⟨o, (mid_ge hT).trans ho2, hoc, m, ?_⟩⟩
   rw [hod]
 have hne : ∀ b ∈ fp, b ≠ T := fun b hb e => by
   have := hsz b hb
   rw [e] at this
   exact absurd this (Nat.not_lt.mpr hT)
 have I2 := I1.turnedL (h' := h2) (t' := tk) (wr := wr) (fun b ob hb e => ?_) (fun b hb => ?_)
 · exact ⟨.ref T, _, I2, rfl, hy T hTn, htn _ hSt, fun b hb => (upd_ne (hne b hb)).trans (hfp b hb).1⟩
 · by_cases hlt : b < s.heap.objs.size
   · have e : s.heap.get? b = some ob := (mid_lt hlt).symm.trans e
     exact hk2 b ob hb (hk b ob hb e)
   · exact (mid_ge (Nat.le_of_not_lt hlt)).symm.trans e
 · have f := hfp b (hwr b hb)
   exact ⟨(upd_ne (hne b (hwr b hb))).trans f.1, f.2⟩
theorem walk_done {X : Cx} {pins : List (Addr × Obj)} {σ : St} {H : Hp} {s : Shared} {E : Value → Shared → Prop} {it : Addr} {fpW wr fp : List Addr} {n : Nat} {Pt : Nat → Array Value → Prop} {St' : Nat → Heap → Prop} {Mid : Nat → Addr → Heap → Prop}
   (W : WalksT X.prog X.w X.A it fpW wr n Pt St' Mid) (I : Inv X pins σ H s) (hfp : ∀ b ∈ fp, FpOk X pins H b) (hwr : ∀ b ∈ wr, b ∈ fp) (hst : St' n s.heap) :
   wpAny (model X.prog X.w) X.A (pyNext (.ref it)) (fun r s1 => r = none ∧ Inv X pins σ H s1) E s :=
 W.done s _ E hst fun h1 tk hk => ⟨rfl, I.turnedL (h' := h1) (t' := tk) (wr := wr) hk fun b hb => hfp b (hwr b hb)⟩
end L2
namespace L2
open PySem PySem.Spec PyProof.Rows
end L2
namespace L2
open PySem PySem.Spec PyProof.Rows
def Ite (K : PySem.W.Frag) (a : Addr) : It :=
 ⟨fun i H => ∃ xs x, SqL K H a xs ∧ xs[i]? = some x,
  fun i H v H' => ∃ t x, H t = none ∧ v = .ref t ∧ H' = upd H t (.tup [.int i, x]) ∧ ∀ xs, SqL K H a xs → xs[i]? = some x,
  fun i H => ∃ xs, SqL K H a xs ∧ xs.length = i⟩
theorem turn_enum {P : Program} {w : World} {K : PySem.W.Frag} {elts : List Expr} {k : Nat} {pos : Pos} {e it l : Addr} (hei : e ≠ it) (hle : l ≠ e) (hli : l ≠ it) :
   Turn P w K (.Tuple elts k pos) (Ite K l) [e, it] e (fun i h => (∃ old, IsEnum h e it i old) ∧ h.IsListIter it l i) where
 mem := by simp
 obj := fun i h st b hb => by
   obtain ⟨⟨old, he⟩, ⟨o1, e1, c1, d1⟩⟩ := st
   simp only [List.mem_cons, List.mem_nil_iff, or_false] at hb
   rcases hb with rfl | rfl
   · exact ⟨_, he, fun v q => by cases q⟩
   · exact ⟨_, e1, fun v q => by rw [d1] at q; cases q⟩
 keep := fun i h h' st k => by
   obtain ⟨⟨old, he⟩, q1⟩ := st
   exact ⟨⟨old, k e (by simp) _ he⟩, q1.at fun o x => k it (by simp) o x⟩
 item := by
   intro X hP hw hK hc i pins s σ H E I hf st hg
   subst hP hw hK
   obtain ⟨xs, x, hx, ex⟩ := hg
   obtain ⟨its, rv, p, hz⟩ := I.list hx
   obtain ⟨u, hu, ru⟩ := rv.get ex
   obtain ⟨s1, s2⟩ := id st
   have W := WalksT.enumerate (prog := X.prog) (w := X.w) (A := X.A) (I.ok.hd hc) e it l hei hle hli its.toArray
   refine walk_item (J := Ite X.K l) (tn := fun i h => (∃ old, IsEnum h e it i old) ∧ h.IsListIter it l i) W I hf (fun b hb => hb) ?_ ?_ ?_ ?_ ?_
   · intro b hb
     simp only [List.mem_cons, List.mem_nil_iff, or_false] at hb
     obtain ⟨old, s1⟩ := s1
     obtain ⟨o1, e1, _⟩ := s2
     rcases hb with rfl | rfl
     · exact Heap.lt_size s1
     · exact Heap.lt_size e1
   · have h1 := (List.getElem?_eq_some_iff.mp hu).1
     simpa using h1
   · exact ⟨s1, s2, p.isList⟩
   · intro vals hp
     obtain ⟨t, v1, e1, rfl⟩ := hp
     have e1 : its[i]? = some v1 := by simpa using e1
     rw [hu] at e1; cases e1
     exact ⟨[.int i, x], (by show 2 ≤ sizeLine; decide), .cons ⟨_, rfl⟩ (.cons ru .nil), fun T hT => ⟨T, x, hT, rfl, rfl, fun zs hz => by rw [I.list_inj hz hx]; exact ex⟩⟩
   · exact fun h q => ⟨q.1, q.2.1⟩
 done := by
   intro X hP hw hK hc i pins s σ H E I hf st hg
   subst hP hw hK
   obtain ⟨xs, hx, hlen⟩ := hg
   obtain ⟨its, rv, p, hz⟩ := I.list hx
   obtain ⟨s1, s2⟩ := id st
   have e' : i = its.toArray.size := by rw [List.size_toArray, ← rv.length, hlen]
   subst e'
   have W := WalksT.enumerate (prog := X.prog) (w := X.w) (A := X.A) (I.ok.hd hc) e it l hei hle hli its.toArray
   exact walk_done W I hf (fun b hb => hb) ⟨s1, s2, p.isList⟩
 self := fun _ _ _ _ _ st h => by
   obtain ⟨⟨old, he⟩, _⟩ := st
   exact wpAny_pyIter_enum he h
def iEnum (K : PySem.W.Frag) (ta : TA) : TI := fun σ H R => ta σ H fun vs H1 => ∃ a, vs = [.ref a] ∧ (∃ xs, SqL K H1 a xs) ∧ R (Ite K a) H1
theorem piK_enum {X : Cx} {elts : List Expr} {k : Nat} {tpos : Pos} {a : Expr} {ta : TA} {p pos : Pos} (K : PySem.W.Frag) (hK : X.K = K) (hg : Gl X "enumerate") (hm : X.mg "enumerate" = none) (ha : PA X [a] ta) (hs : starEach [a] X.env = [(false, eval a X.env)] := by rfl) :
   PI X (.Tuple elts k tpos) (.Call (.Name "enumerate" p) [a] [] pos) (iEnum K ta) := by
 subst hK
 intro pins s σ H R I h
 refine Call_ (ld_blt I hg hm (u := .type "enumerate") (by decide +kernel) (PyProof.Rows.callWith_type1 (thn (ha pos pins s σ H _ I h) fun us s1 ⟨vs, H1, I1, r1, q1⟩ => ?_) hs rfl))
 obtain ⟨l, e, ⟨xs, hx⟩, q⟩ := q1
 subst e
 cases r1 with
 | cons r rr =>
   cases rr
   cases r
   obtain ⟨its, rv, pl, hz⟩ := I1.list hx
   have hlt : l < s1.heap.objs.size := by obtain ⟨o, ho, _⟩ := pl.isList; exact Heap.lt_size ho
   refine call_enumerate_list pl.isList fun h' hE hI hsz hk => ?_
   refine wpAny_pyIter_enum hE ?_
   have I2 : Inv X pins σ H1 { s1 with heap := h' } := I1.kept (t' := s1.toks) fun b o e => hk b o e
   refine ⟨s1.heap.objs.size + 1, _, _, _, H1, rfl, I2, turn_enum (Nat.succ_ne_self _) (Nat.ne_of_lt (Nat.lt_succ_of_lt hlt)) (Nat.ne_of_lt hlt), ⟨⟨_, hE⟩, hI⟩, fun b hb => ?_, q⟩
   have hb' : s1.heap.objs.size ≤ b := by
     simp only [List.mem_cons, List.mem_nil_iff, or_false] at hb
     rcases hb with rfl | rfl
     · exact Nat.le_add_right _ _
     · exact Nat.le_refl _
   exact I1.fpOk hb' (I1.hok.fresh hb')
theorem for_enum {K : PySem.W.Frag} {a : Addr} {xs : List V} {g : TG} {tb : TS} {D : Ends} {σ : St} {H : Hp} (Pv : Nat → St → Hp → Prop) (h0 : Pv 0 σ H) (hl : ∀ i σ H, i ≤ xs.length → Pv i σ H → SqL K H a xs)
   (hs : ∀ i x t σ H, xs[i]? = some x → H t = none → Pv i σ H → g (.ref t) σ (upd H t (.tup [.int i, x])) fun σ2 H2 => tb { D with nx := Pv (i + 1), ct := Pv (i + 1), bk := D.nx } σ2 H2) (hd : ∀ σ H, Pv xs.length σ H → D.nx σ H) :
   ∃ W : Nat → Nat → St → Hp → Prop, (∃ m, W 0 m σ H) ∧ ∀ i m σ H, W i m σ H →
     ((Ite K a).stop i H ∧ D.nx σ H) ∨ ((Ite K a).go i H ∧ ∃ N : St → Hp → Prop, (∀ σ' H', N σ' H' → ∃ m', m' < m ∧ W (i + 1) m' σ' H') ∧ ∀ x H', (Ite K a).yld i H x H' → g x σ H' fun σ2 H2 => tb { D with nx := N, ct := N, bk := D.nx } σ2 H2) := by
 refine ⟨fun i m σ H => m = xs.length - i ∧ i ≤ xs.length ∧ Pv i σ H, ⟨xs.length, by simp, Nat.zero_le _, h0⟩, ?_⟩
 rintro i m σ H ⟨rfl, hi, p⟩
 have q := hl i σ H hi p
 by_cases hlt : i < xs.length
 · refine .inr ⟨⟨xs, xs[i], q, by simp [hlt]⟩, Pv (i + 1), fun σ' H' p' => ⟨xs.length - (i + 1), by omega, rfl, hlt, p'⟩, fun v H' y => ?_⟩
   obtain ⟨t, x, ht, e1, e2, ex⟩ := y
   subst e1 e2
   exact hs i x t σ _ (ex xs q) ht p
 · have e : i = xs.length := by omega
   subst e
   exact .inl ⟨⟨xs, q, rfl⟩, hd σ H p⟩
def tSlRev (K : PySem.W.Frag) (te tst : TE) : TE := fun σ H Q => te σ H fun x H1 => tst σ H1 fun st H2 => ∃ a xs, x = .ref a ∧ st = .int (-1) ∧ SqL K H2 a xs ∧ ∀ p, H2 p = none → Q (.ref p) (upd H2 p (.lst xs.reverse))
theorem peK_slrev {X : Cx} {e st : Expr} {te tst : TE} {p2 pos : Pos} (K : PySem.W.Frag) (hK : X.K = K) (he : PE X e te) (hst : PE X st tst) : PE X (.Subscript e (.Slice none none (some st) p2) pos) (tSlRev K te tst) := by
 subst hK
 intro pins s σ H Q I h
 refine Subscript_ (thn (he pins s σ H _ I h) fun v s1 ⟨x, H1, I1, r1, q1⟩ => ?_)
 refine wpAny_Slice ?_
 rw [evalPart_none]
 refine wpAny_pure ?_
 refine wpAny_pure ?_
 rw [evalPart_some]
 refine thn (hst pins s1 σ H1 _ I1 q1) fun vs s3 ⟨y, H3, I3, r3, q3⟩ => ?_
 obtain ⟨a, xs, rfl, rfl, hx, q⟩ := q3
 cases r1
 obtain ⟨t, rfl⟩ := r3
 have I4 : Inv X pins σ H3 { s3 with heap := s3.heap.push { cls := .type "slice", data := .fields #[.none, .none, .int (-1) t] } } := I3.kept (t' := s3.toks) fun b ob q => Heap.get?_push_of_some _ q
 obtain ⟨its, r, ht, hz⟩ := I4.list hx
 have hlen := r.length
 show wpAny (model X.prog X.w) X.A (subscriptTail e (.Slice none none (some st) p2) (.ref a) (.ref s3.heap.objs.size)) (EP X pins σ Q) X.xe { s3 with heap := s3.heap.push { cls := .type "slice", data := .fields #[.none, .none, .int (-1) t] } }
 refine tail_any (ops := [.ref a, .ref s3.heap.objs.size]) ht.isList.typeIs slot_list_getitem.lookup ?_ (by with_unfolding_all rfl)
 refine wpAny_getItem_list_slice ht.isList (Heap.IsSliceOf.new ..) .none .none (.int _ t) (by decide) ?_ (by rw [List.size_toArray] <;> omega)
 rw [PySem.W.krv_pick]
 refine ⟨.ref _, _, I4.laid (t' := s3.toks) (o := .lst xs.reverse) (fun b ob q => Heap.get?_push_of_some _ q) (Nat.le_refl _) ?_, rfl, q _ (I4.hok.fresh (Nat.le_refl _))⟩
 refine ⟨by rw [List.length_reverse]; exact hz, its.reverse, 0, r.reverse, ?_⟩
 exact Heap.get?_push_size _ rfl
end L2

set_option Elab.async false
set_option linter.all false
set_option maxRecDepth 100000
set_option maxHeartbeats 4000000
namespace L2
open PySem PySem.Spec PyProof.Rows
def rSum (K : PySem.W.Frag) : List V → Hp → VK → Prop := fun xs H Q => ∃ (p : Addr) (ns : List Nat), xs = [.ref p] ∧ SqL K H p (ns.map fun n : Nat => V.int n) ∧ ns.sum < 1000000 ∧ Q (.int (ns.sum : Nat)) H
theorem pre_take (ns : List Nat) : ∀ k, k ≤ ns.length → preSum (fun i => ((ns.getD i 0 : Nat) : Int)) k = ((ns.take k).sum : Nat)
 | 0, _ => rfl
 | k + 1, h => by
   show preSum _ k + ((ns.getD k 0 : Nat) : Int) = _
   rw [pre_take ns k (by omega)]
   have hk : k < ns.length := by omega
   rw [List.take_succ, List.getElem?_eq_getElem hk, List.sum_append]
   simp [List.getD, List.getElem?_eq_getElem hk]
theorem take_sum_le (ns : List Nat) (k : Nat) : (ns.take k).sum ≤ ns.sum := by
 have e := congrArg List.sum (List.take_append_drop k ns)
 rw [List.sum_append] at e
 omega
theorem vals_int_get : ∀ {ns : List Nat} {us : List Value} {i : Nat} {v : Value}, Vals (ns.map fun n : Nat => V.int n) us → us[i]? = some v → ∃ t, v = .int (ns.getD i 0 : Nat) t
 | [], _, i, v, r, e => by cases r; simp at e
 | n :: ns, _, 0, v, r, e => by
   cases r with
   | cons r1 r2 =>
     simp at e
     subst e
     obtain ⟨t, e⟩ := r1
     exact ⟨t, by simpa using e⟩
 | n :: ns, _, i + 1, v, r, e => by
   cases r with
   | cons r1 r2 =>
     obtain ⟨t, e2⟩ := vals_int_get r2 (i := i) (v := v) (by simpa using e)
     exact ⟨t, by simpa using e2⟩
theorem call_sumN {X : Cx} (hc : X.calm = true) : CallR X (.builtin "sum") (rSum X.K) := by
 intro pins s σ H xs us Q I r h
 obtain ⟨p, ns, rfl, hq, hs, q⟩ := h
 obtain ⟨u, rfl, ru⟩ := vals1 r
 cases ru
 obtain ⟨its, rv, pl, hz⟩ := I.list hq
 have hlen := rv.length
 rw [List.length_map] at hlen
 have hpl : p < s.heap.objs.size := by obtain ⟨o, ho, _⟩ := pl.isList; exact Heap.lt_size ho
 refine call_sum_walk (wpAny_pyIter_list pl.isList ⟨s.heap.objs.size, _, _, _, _, _, fun i => ((ns.getD i 0 : Nat) : Int), rfl, Walks.list (A := X.A.in1) (show X.A.in1.handled = none from I.ok.hd hc) s.heap.objs.size p (Nat.ne_of_lt hpl) its.toArray, ⟨⟨_, Heap.get?_push_size _ rfl, rfl, rfl⟩, pl.isList.at fun o e => Heap.get?_push_of_some _ e⟩, ?_, ?_, ?_, ?_⟩)
 · intro b hb
   have e : b = s.heap.objs.size ∨ b = p := by simpa using hb
   show b < (s.heap.push _).objs.size
   rw [Heap.size_push]
   rcases e with rfl | rfl
   · exact Nat.lt_succ_self _
   · exact Nat.lt_succ_of_lt hpl
 · intro i v hv
   exact vals_int_get rv (by simpa using hv)
 · intro j hj
   have hj' : j < ns.length := by rw [hlen]; simpa using hj
   have h1 := take_sum_le ns (j + 1)
   have h2 : ns.getD j 0 ≤ ns.sum := by
     have := take_sum_le ns (j + 1)
     rw [List.take_succ, List.getElem?_eq_getElem hj', List.sum_append] at this
     simp [List.getD, List.getElem?_eq_getElem hj'] at this ⊢
     omega
   rw [pre_take ns (j + 1) (by omega)]
   show InLong ((ns.getD j 0 : Nat) : Int) ∧ _
   constructor <;> (unfold InLong; constructor <;> omega)
 · intro h' tk t' hk
   have f0 := I.fpOk (Nat.le_refl s.heap.objs.size) (I.hok.fresh (Nat.le_refl _))
   have I2 : Inv X pins σ H { s with heap := s.heap.push { cls := .type "list_iterator", data := .fields #[.ref p, rawInt 0] } } := I.kept (t' := s.toks) fun b o e => Heap.get?_push_of_some _ e
   have I3 := I2.turned (h' := h') (t' := tk) (it := s.heap.objs.size) (fun b o hb e => hk b o (by simpa using hb) e) f0.1 f0.2.1 f0.2.2.2.1 f0.2.2.2.2.1 f0.2.2.2.2.2
   refine ⟨.int (ns.sum : Nat), H, I3, ⟨t', ?_⟩, q⟩
   rw [List.size_toArray, ← hlen, pre_take ns _ (Nat.le_refl _), List.take_of_length_le (Nat.le_refl _)]
theorem callK_sum {X : Cx} (K : PySem.W.Frag) (h : X.K = K) (hc : X.calm = true) : CallR X (.builtin "sum") (rSum K) := by subst h; exact call_sumN hc
end L2

set_option Elab.async false
set_option linter.all false
set_option maxRecDepth 100000
set_option maxHeartbeats 4000000
namespace L2
open PySem PySem.Spec PyProof.Rows
section
variable {X : Cx}
end
section
variable {X : Cx}
end
end L2

set_option Elab.async false
set_option linter.all false
set_option maxRecDepth 100000
set_option maxHeartbeats 4000000
namespace L2
open PySem PySem.Spec PyProof.Rows
section
variable {prog : Program} {w : World} {A : Around} {E : Value → Shared → Prop} {s : Shared}
end
section
variable {prog : Program} {w : World} {A : Around} {E : Value → Shared → Prop} {s : Shared}
end
section
variable {prog : Program} {w : World} {A : Around} {E : Value → Shared → Prop} {s : Shared}
end
end L2

set_option Elab.async false
set_option linter.all false
set_option maxRecDepth 100000
set_option maxHeartbeats 4000000
namespace L2
open PySem PySem.Spec PyProof.Rows
section
variable {X : Cx}
end
end L2

set_option Elab.async false
set_option linter.all false
set_option maxRecDepth 100000
set_option maxHeartbeats 4000000
namespace L2
open PySem PySem.Spec PyProof.Rows
section
variable {X : Cx} {pins : List (Addr × Obj)} {σ : St} {H : Hp} {s : Shared}
end
section
variable {X : Cx}
end
end L2

set_option Elab.async false
set_option linter.all false
set_option maxRecDepth 100000
set_option maxHeartbeats 4000000
namespace L2
open PySem PySem.Spec PyProof.Rows
structure VKd (prog : Program) (w : World) (K : Type) [DecidableEq K] where
 is : Heap → K → Value → Prop
 hash : K → Int
 draws : K → Nat
 lev : Nat
 inj : ∀ {h : Heap} {v : Value} {x y : K}, is h x v → is h y v → x = y
 keeps : ∀ {h h' : Heap} {k : K} {v : Value} {d : Addr} {o : Obj} {es ep}, is h k v → h.get? d = some o → o.data = .dict es ep → Heap.SameBut d h h' → is h' k v
 pyHash : ∀ {A : Around} {E : Value → Shared → Prop} {s : Shared} {k : K} {v : Value} {Q : Int → Shared → Prop}, A.units + lev < cLine → is s.heap k v → Q (hash k) { s with toks := s.toks + draws k } → wpAny (model prog w) A (PySem.pyHash v) Q E s
 eq : ∀ {A : Around} {s : Shared} {x y : K} {u v : Value}, A.units + lev < cLine → is s.heap x u → is s.heap y v → SeqAt.EqAt A s u v (decide (x = y))
 quiet : ∀ {A : Around} {E : Value → Shared → Prop} {s : Shared} {k : K} {v : Value} {Q : Bool → Shared → Prop} {n : Nat}, lev ≤ n → is s.heap k v → Q true s → wpAny (model prog w) A (eqIsQuiet n v) Q E s
section
variable {prog : Program} {w : World} {K : Type} [DecidableEq K] (V : VKd prog w K)
def TupIs (h : Heap) (ks : List K) (a : Addr) : Prop := ∃ o items n, h.get? a = some o ∧ o.cls = .type "tuple" ∧ o.data = .seq items n ∧ Paired (fun k v => V.is h k v) ks items.toList
def tupHash (ks : List K) : Int := reduceHash (Builtin.Tuple.tupleHashOf (ks.map V.hash))
variable {V}
theorem TupIs.ty {s : Shared} {ks : List K} {a : Addr} (x : TupIs V s.heap ks a) : s.TypeIs (.ref a) "tuple" := by obtain ⟨o, _, _, ho, hc, _⟩ := x; exact ⟨o, ho, hc⟩
theorem paired_inj {h : Heap} : ∀ {x y : List K} {vs : List Value}, Paired (fun k v => V.is h k v) x vs → Paired (fun k v => V.is h k v) y vs → x = y
 | _, _, _, .nil, .nil => rfl
 | _, _, _, .cons a r, .cons b q => by rw [V.inj a b, paired_inj r q]
theorem TupIs.inj {h : Heap} {a : Addr} {x y : List K} (hx : TupIs V h x a) (hy : TupIs V h y a) : x = y := by
 obtain ⟨o, items, n, ho, _, hd, hi⟩ := hx
 obtain ⟨o', items', n', ho', _, hd', hi'⟩ := hy
 rw [ho] at ho'
 cases ho'
 rw [hd] at hd'
 cases hd'
 exact paired_inj hi hi'
theorem TupIs.keeps {h h' : Heap} {ks : List K} {a d : Addr} {o : Obj} {es ep} (x : TupIs V h ks a) (ho : h.get? d = some o) (hd : o.data = .dict es ep) (hs : Heap.SameBut d h h') : TupIs V h' ks a := by
 obtain ⟨o', items, n, e1, e2, e3, e4⟩ := x
 have hne : a ≠ d := fun e => by
   subst e
   rw [e1] at ho
   cases ho
   rw [hd] at e3; cases e3
 exact ⟨o', items, n, (hs.2 a hne).trans e1, e2, e3, Paired.mapP e4 fun k v q => V.keeps q ho hd hs⟩
variable {A : Around} {E : Value → Shared → Prop} {s : Shared}
theorem tup_hash {ks : List K} {a : Addr} {Q : Int → Shared → Prop} (hu : A.units + (V.lev + 1) < cLine) (hk : TupIs V s.heap ks a) (h : Q (tupHash V ks) { s with toks := s.toks + ((ks.map V.draws).sum + 1) }) :
   wpAny (model prog w) A (pyHash (.ref a)) Q E s := by
 have hT := hk.ty
 have hu0 : A.units < cLine := by omega
 obtain ⟨o, items, n, ho, _, hd, hi⟩ := hk
 unfold pyHash
 first | unfold pyHashByItsType | skip
 first | refine wpAny_bind (wpAny_cRoomFor_or (.inr hu0) ?_) | skip
 refine wpAny_bind (wpAny_specialOf hT F.slot_tuple_hash.lookup ?_); show wpAny _ _ (if (some (Value.builtin "tuple.__hash__") == some Value.none) = true then _ else _) Q E s
 rw [if_neg (by rw [beq_builtin_none]; exact Bool.false_ne_true)]; refine wpAny_bind (wpAny_specialOf hT F.slot_tuple_hash.lookup ?_)
 show wpAny _ _ (callSpecialIfBoundUnlessNone? (.ref a) "__hash__" _ >>= _) Q E s; refine wpAny_bind (wpAny_callSpecialIfBoundUnlessNone?_slot hT F.slot_tuple_hash (wpAny_call_entry F.slot_tuple_hash hT F.entry_tuple_hash ?_ (F.args_tuple_hash_1 _)))
 have hu1 : A.in1.units + V.lev < cLine := by show A.units + 1 + V.lev < cLine; omega
 show wpAny _ _ (Builtin.Tuple.tupleItemsOf (.ref a) >>= _) _ _ s
 refine wpAny_bind (wpAny_tupleItemsOf ho hd (wpAny_bind ?_))
 rw [← Array.forIn_toList]
 refine wpAny_forIn_list _ (fun rest (b : Array Int) s' => ∃ done left, ks = done ++ left ∧ Paired (fun k v => V.is s.heap k v) left rest ∧ b.toList = done.map V.hash ∧ s' = { s with toks := s.toks + (done.map V.draws).sum }) _ ?_ ?_ _ _ ⟨[], ks, rfl, hi, rfl, rfl⟩
 · rintro x rest b s' ⟨done, left, rfl, hl, hb, rfl⟩
   cases hl with
   | @cons k _ ks' _ h1 hl' =>
     have fin : ∃ d l, done ++ k :: ks' = d ++ l ∧ Paired (fun k v => V.is s.heap k v) l rest ∧ (b.push (V.hash k)).toList = d.map V.hash ∧ ({ s with toks := s.toks + (done.map V.draws).sum + V.draws k } : Shared) = { s with toks := s.toks + (d.map V.draws).sum } := ⟨done ++ [k], ks', by simp, hl', by simp [hb], by simp [Nat.add_assoc]⟩
     refine wpAny_bind (V.pyHash hu1 h1 ?_)
     first
       | exact wpAny_pure fin
       | exact wpAny_bind (wpAny_pure (wpAny_pure fin))
 · rintro b s' ⟨done, left, rfl, hl, hb, rfl⟩
   cases hl
   rw [List.append_nil] at h
   show wpAny _ _ (retInt (Builtin.Tuple.tupleHashOf b.toList)) _ _ _
   rw [hb]
   refine wpAny_ret_mkInt ?_
   generalize hz : Builtin.Tuple.tupleHashOf (done.map V.hash) = z
   unfold tupHash reduceHash at h
   rw [hz] at h
   show wpAny _ _ (if (decide (-(2 : Int) ^ 63 ≤ z) && decide (z < 2 ^ 63)) = true then _ else _) Q E _
   by_cases hr : (decide (-(2 : Int) ^ 63 ≤ z) && decide (z < 2 ^ 63)) = true
   · rw [if_pos hr] at h ⊢
     exact wpAny_pure (by simpa [Nat.add_assoc] using h)
   · rw [if_neg hr] at h ⊢
     exact wpAny_bind (wpAny_rule (wpAny_pure (by simpa [Nat.add_assoc] using h)))
theorem all_eq_dec {x y : List K} : ((List.range (min x.length y.length)).all (fun j => decide (x[j]? = y[j]?)) && x.length == y.length) = decide (x = y) := by
 rw [Bool.eq_iff_iff, Bool.and_eq_true, List.all_eq_true, decide_eq_true_iff, beq_iff_eq]
 constructor
 · rintro ⟨q, hl⟩
   refine List.ext_getElem? fun i => ?_
   by_cases hi : i < x.length
   · exact of_decide_eq_true (q i (List.mem_range.mpr (by omega)))
   · rw [List.getElem?_eq_none (by omega), List.getElem?_eq_none (by omega)]
 · rintro rfl
   exact ⟨fun i _ => decide_eq_true rfl, rfl⟩
theorem paired_at' {F : K → Value → Prop} : ∀ {ks : List K} {vs : List Value}, Paired F ks vs → ∀ (j : Nat) v, vs[j]? = some v → ∃ k, ks[j]? = some k ∧ F k v
 | _, _, .nil, j, v, h => by simp at h
 | _, _, .cons a r, 0, v, h => by cases h; exact ⟨_, rfl, a⟩
 | _, _, .cons a r, j + 1, v, h => by
   rw [List.getElem?_cons_succ] at h
   obtain ⟨k, e, q⟩ := paired_at' r j v h
   exact ⟨k, by rw [List.getElem?_cons_succ]; exact e, q⟩
theorem tup_eq {x y : List K} {a b : Addr} (hu : A.units + (V.lev + 1) < cLine) (hx : TupIs V s.heap x a) (hy : TupIs V s.heap y b) : SeqAt.EqAt A s (.ref a) (.ref b) (decide (x = y)) := by
 by_cases e : a = b
 · subst e
   rw [decide_eq_true (hx.inj hy)]
   exact SeqAt.EqAt.same _
 · obtain ⟨o, items, n, h1, h2, h3, h4⟩ := hx
   obtain ⟨o', items', n', h1', h2', h3', h4'⟩ := hy
   have l1 : x.length = items.size := by rw [Paired.length h4, Array.length_toList]
   have l2 : y.length = items'.size := by rw [Paired.length h4', Array.length_toList]
   refine SeqAt.EqAt.of_refs e ?_
   rw [← all_eq_dec, l1, l2]
   refine SeqAt.RcAt.tuples ⟨o, h1, h2, n, h3⟩ ⟨o', h1', h2', n', h3'⟩ (by omega) fun j j1 j2 => ?_
   obtain ⟨k, ek, hk⟩ := paired_at' h4 j items[j] (by simp [j1])
   obtain ⟨k', ek', hk'⟩ := paired_at' h4' j items'[j] (by simp [j2])
   rw [ek, ek', show decide (some k = some k') = decide (k = k') by simp]
   exact V.eq (by show A.units + 1 + V.lev < cLine; omega) hk hk'
theorem tup_quiet {ks : List K} {a : Addr} {Q : Bool → Shared → Prop} {n : Nat} (hn : V.lev + 1 ≤ n) (hk : TupIs V s.heap ks a) (h : Q true s) : wpAny (model prog w) A (eqIsQuiet n (.ref a)) Q E s := by
 have hT := hk.ty
 obtain ⟨o, items, m, ho, _, hd, hi⟩ := hk
 obtain ⟨n, rfl⟩ : ∃ n', n = n' + 1 := ⟨n - 1, by omega⟩
 unfold eqIsQuiet
 refine wpAny_bind (wpAny_specialOf hT F.slot_tuple_eq.lookup ?_); show wpAny _ _ (isInstance (.ref a) (.type "tuple") >>= _) _ _ s
 refine wpAny_bind (wpAny_isInstance hT isSubtype_tuple_tuple ?_)
 simp only [Bool.not_true, Bool.false_eq_true, if_false]
 refine wpAny_bind (wpAny_seqItems ho hd (wpAny_bind ?_))
 show wpAny _ _ (forIn items _ _) _ _ s
 rw [← Array.forIn_toList]
 refine wpAny_forIn_list _ (fun rest r s' => r.1 = none ∧ s' = s ∧ ∃ l, Paired (fun k v => V.is s.heap k v) l rest) _ ?_ ?_ _ _ ⟨rfl, rfl, ks, hi⟩
 · rintro v rest r s' ⟨hr, rfl, l, hl⟩
   cases hl with
   | @cons k _ ks' _ h1 hl' =>
     refine wpAny_bind (V.quiet (by omega) h1 ?_)
     simp only [Bool.not_true, Bool.false_eq_true, if_false]
     exact wpAny_pure ⟨rfl, rfl, ks', hl'⟩
 · rintro ⟨r1, r2⟩ s' ⟨hr, rfl, _⟩
   simp only at hr
   subst hr
   exact wpAny_pure h
end
abbrev Lf := Option Key
def lfIs : Lf → Value → Prop
 | none, v => v = .none
 | some k, v => keyIs k v = true
section
variable {prog : Program} {w : World} {A : Around} {E : Value → Shared → Prop} {s : Shared}
theorem none_hash {Q : Int → Shared → Prop} (hu : A.units < cLine) (h : Q 4238894112 { s with toks := s.toks + 1 }) : wpAny (model prog w) A (pyHash .none) Q E s := by
 have hT : s.TypeIs .none "NoneType" := rfl
 unfold pyHash
 first | unfold pyHashByItsType | skip
 first | refine wpAny_bind (wpAny_cRoomFor_or (.inr hu) ?_) | skip
 refine wpAny_bind (wpAny_specialOf hT F.slot_NoneType_hash.lookup ?_)
 show wpAny _ _ (if (some (Value.builtin "NoneType.__hash__") == some Value.none) = true then _ else _) Q E s
 rw [if_neg (by rw [beq_builtin_none]; exact Bool.false_ne_true)]; refine wpAny_bind (wpAny_specialOf hT F.slot_NoneType_hash.lookup ?_)
 show wpAny _ _ (callSpecialIfBoundUnlessNone? .none "__hash__" _ >>= _) Q E s
 refine wpAny_bind (wpAny_callSpecialIfBoundUnlessNone?_slot hT F.slot_NoneType_hash (wpAny_call_entry F.slot_NoneType_hash hT F.entry_NoneType_hash ?_ (F.args_NoneType_hash_1 _)))
 show wpAny _ _ (retInt 4238894112) _ _ _
 refine wpAny_ret_mkInt ?_
 show wpAny _ _ (if (decide (-(2 : Int) ^ 63 ≤ 4238894112) && decide ((4238894112 : Int) < 2 ^ 63)) = true then _ else _) Q E _
 rw [if_pos (by decide)]
 exact wpAny_pure h
theorem lf_key {k : Key} {v : Value} (h : keyIs k v = true) : (∃ i t, k = .inl i ∧ v = .int i t) ∨ ∃ z t, k = .inr z ∧ v = .str z t := keyIs_shape h
theorem lf_inj (prog : Program) (w : World) {v : Value} {x y : Lf} (hx : lfIs x v) (hy : lfIs y v) : x = y := by
 cases x with
 | none =>
   cases y with
   | none => rfl
   | some k => rcases lf_key hy with ⟨i, t, rfl, e⟩ | ⟨z, t, rfl, e⟩ <;> (rw [show v = .none from hx] at e; cases e)
 | some k =>
   cases y with
   | none => rcases lf_key hx with ⟨i, t, rfl, e⟩ | ⟨z, t, rfl, e⟩ <;> (rw [show v = .none from hy] at e; cases e)
   | some k' => rw [(mixKind prog w).inj v k k' hx hy]
theorem lf_eq {x y : Lf} {u v : Value} (hx : lfIs x u) (hy : lfIs y v) : SeqAt.EqAt A s u v (decide (x = y)) := by
 cases x with
 | none =>
   have hx : u = .none := hx
   subst hx
   cases y with
   | none =>
     have hy : v = .none := hy
     subst hy
     rw [decide_eq_true rfl]; exact SeqAt.EqAt.same _
   | some k =>
     rw [decide_eq_false (by simp)]
     rcases lf_key hy with ⟨i, t, rfl, rfl⟩ | ⟨z, t, rfl, rfl⟩
     · exact SeqAt.EqAt.none_int _ _
     · exact SeqAt.EqAt.none_str _ _
 | some k =>
   cases y with
   | none =>
     have hy : v = .none := hy
     subst hy
     rw [decide_eq_false (by simp)]
     rcases lf_key hx with ⟨i, t, rfl, rfl⟩ | ⟨z, t, rfl, rfl⟩
     · exact SeqAt.EqAt.int_none _ _
     · exact SeqAt.EqAt.str_none _ _
   | some k' =>
     rw [show decide (some k = some k') = decide (k = k') by simp]
     rcases lf_key hx with ⟨i, t, rfl, rfl⟩ | ⟨z, t, rfl, rfl⟩ <;> rcases lf_key hy with ⟨i', t', rfl, rfl⟩ | ⟨z', t', rfl, rfl⟩
     · rw [key_ll]; exact SeqAt.EqAt.int_int _ _ _ _
     · rw [key_lr]; exact SeqAt.EqAt.int_str _ _ _ _
     · rw [key_rl]; exact SeqAt.EqAt.str_int _ _ _ _
     · rw [key_rr, show decide (z = z') = (z == z') by rw [Bool.eq_iff_iff, decide_eq_true_iff, beq_iff_eq]]; exact SeqAt.EqAt.str_str _ _ _ _
theorem lf_byValue {x : Lf} {v : Value} (h : lfIs x v) : carriedByValue v = true := by
 cases x with
 | none => rw [show v = .none from h]; rfl
 | some k => rcases lf_key h with ⟨i, t, rfl, rfl⟩ | ⟨z, t, rfl, rfl⟩ <;> rfl
end
def lfHash (w : World) : Lf → Int
 | none => 4238894112
 | some k => keyH w k
def leafK (prog : Program) (w : World) : VKd prog w Lf where
 is := fun _ k v => lfIs k v
 hash := lfHash w
 draws := fun _ => 1
 lev := 0
 inj := fun hx hy => lf_inj prog w hx hy
 keeps := fun h _ _ _ => h
 pyHash := fun {A E s k v Q} hu h q => by
   cases k with
   | none =>
     have h : v = .none := h
     subst h
     exact none_hash hu q
   | some k => exact (mixKind prog w).pyHash h q
 eq := fun _ hx hy => lf_eq hx hy
 quiet := fun {A E s k v Q n} _ h q => by rw [eqIsQuiet_byValue n (lf_byValue h)]; exact wpAny_pure q
section
variable {prog : Program} {w : World} {K : Type} [DecidableEq K] (V : VKd prog w K)
def stIs (h : Heap) : Lf ⊕ List K → Value → Prop
 | .inl k, v => lfIs k v
 | .inr ks, v => ∃ a, v = .ref a ∧ TupIs V h ks a
def stHash : Lf ⊕ List K → Int
 | .inl k => lfHash w k
 | .inr ks => tupHash V ks
def stDraws : Lf ⊕ List K → Nat
 | .inl _ => 1
 | .inr ks => (ks.map V.draws).sum + 1
variable {V}
theorem lf_ref {k : Lf} {a : Addr} (h : lfIs k (.ref a)) : False := by
 cases k with
 | none => cases (show Value.ref a = .none from h)
 | some k => rcases lf_key h with ⟨i, t, rfl, e⟩ | ⟨z, t, rfl, e⟩ <;> cases e
theorem st_eq {A : Around} {s : Shared} {x y : Lf ⊕ List K} {u v : Value} (hu : A.units + (V.lev + 1) < cLine) (hx : stIs V s.heap x u) (hy : stIs V s.heap y v) : SeqAt.EqAt A s u v (decide (x = y)) := by
 cases x with
 | inl k =>
   cases y with
   | inl k' =>
     rw [show decide ((Sum.inl k : Lf ⊕ List K) = .inl k') = decide (k = k') by simp]
     exact lf_eq hx hy
   | inr ks =>
     obtain ⟨a, rfl, o, items, n, h1, h2, h3, h4⟩ := hy
     rw [decide_eq_false (fun q => nomatch q)]
     cases k with
     | none =>
       have hx : u = .none := hx
       subst hx
       exact SeqAt.EqAt.none_tuple ⟨o, h1, h2, n, h3⟩ (by omega)
     | some k =>
       rcases lf_key hx with ⟨i, t, rfl, rfl⟩ | ⟨z, t, rfl, rfl⟩
       · exact SeqAt.EqAt.int_tuple _ _ ⟨o, h1, h2, n, h3⟩ (by omega)
       · exact SeqAt.EqAt.str_tuple _ _ ⟨o, h1, h2, n, h3⟩ (by omega)
 | inr ks =>
   obtain ⟨a, rfl, hxa⟩ := hx
   cases y with
   | inl k' =>
     obtain ⟨o, items, n, h1, h2, h3, h4⟩ := hxa
     rw [decide_eq_false (fun q => nomatch q)]
     cases k' with
     | none =>
       have hy : v = .none := hy
       subst hy
       exact SeqAt.EqAt.tuple_none ⟨o, h1, h2, n, h3⟩ (by omega)
     | some k =>
       rcases lf_key hy with ⟨i, t, rfl, rfl⟩ | ⟨z, t, rfl, rfl⟩
       · exact SeqAt.EqAt.tuple_int _ _ ⟨o, h1, h2, n, h3⟩ (by omega)
       · exact SeqAt.EqAt.tuple_str _ _ ⟨o, h1, h2, n, h3⟩ (by omega)
   | inr ks' =>
     obtain ⟨b, rfl, hyb⟩ := hy
     rw [show decide ((Sum.inr ks : Lf ⊕ List K) = .inr ks') = decide (ks = ks') by simp]
     exact tup_eq hu hxa hyb
def stepK (V : VKd prog w K) : VKd prog w (Lf ⊕ List K) where
 is := stIs V
 hash := stHash V
 draws := stDraws V
 lev := V.lev + 1
 inj := fun {h v x y} hx hy => by
   cases x with
   | inl k =>
     cases y with
     | inl k' => rw [lf_inj prog w hx hy]
     | inr ks => obtain ⟨a, rfl, _⟩ := hy; exact (lf_ref hx).elim
   | inr ks =>
     obtain ⟨a, rfl, hxa⟩ := hx
     cases y with
     | inl k' => exact (lf_ref hy).elim
     | inr ks' => obtain ⟨b, e, hyb⟩ := hy; cases e; rw [hxa.inj hyb]
 keeps := fun {h h' k v d o es ep} hx ho hd hs => by
   cases k with
   | inl k => exact hx
   | inr ks => obtain ⟨a, rfl, hxa⟩ := hx; exact ⟨a, rfl, hxa.keeps ho hd hs⟩
 pyHash := fun {A E s k v Q} hu hx q => by
   cases k with
   | inl k => exact (leafK prog w).pyHash (by show A.units + 0 < cLine; omega) hx q
   | inr ks => obtain ⟨a, rfl, hxa⟩ := hx; exact tup_hash hu hxa q
 eq := fun hu hx hy => st_eq hu hx hy
 quiet := fun {A E s k v Q n} hn hx q => by
   cases k with
   | inl k => exact (leafK prog w).quiet (Nat.zero_le _) hx q
   | inr ks => obtain ⟨a, rfl, hxa⟩ := hx; exact tup_quiet hn hxa q
def nestK (V : VKd prog w K) (hl : V.lev + 1 ≤ 8) : HeapKind prog w (List K) where
 is := TupIs V
 hash := tupHash V
 draws := fun ks => (ks.map V.draws).sum + 1
 room := fun A => A.units + (V.lev + 1) < cLine
 inj := fun hx hy => hx.inj hy
 keeps := fun x ho hd hs => x.keeps ho hd hs
 pyHash := fun hu hk h => tup_hash hu hk h
 eqBool := fun hu hx hy h => tup_eq hu hx hy prog w _ _ h
 quiet := fun hk h => tup_quiet hl hk h
end
end L2

set_option Elab.async false
set_option linter.all false
set_option maxRecDepth 100000
set_option maxHeartbeats 4000000
namespace L2
open PySem PySem.Spec PyProof.Rows


section
variable {κ : Type} [DecidableEq κ]
def valV (kvs : List (κ × V)) (k : κ) : Option V := (kvs.find? fun kv => decide (kv.1 = k)).map (·.2)

def putK (kvs : List (κ × V)) (k : κ) (v : V) : List (κ × V) :=
 if (kvs.any fun kv => decide (kv.1 = k)) = true then kvs.map (fun kv => if kv.1 = k then (kv.1, v) else kv) else kvs ++ [(k, v)]
def dropK (kvs : List (κ × V)) (k : κ) : List (κ × V) := kvs.filter fun kv => decide (kv.1 ≠ k)

theorem valV_pos {p : κ × V} {r : List (κ × V)} {k : κ} (e : p.1 = k) : valV (p :: r) k = some p.2 := by simp [valV, List.find?_cons, e]
theorem valV_neg {p : κ × V} {r : List (κ × V)} {k : κ} (e : ¬ p.1 = k) : valV (p :: r) k = valV r k := by simp [valV, List.find?_cons, e]
theorem RelO.isSome_eq {o : Option V} {u : Option Value} (r : RelO o u) : o.isSome = u.isSome := by
 cases o with
 | none => cases u with
   | none => rfl
   | some _ => exact (show False from r).elim
 | some _ => cases u with
   | none => exact (show False from r).elim
   | some _ => rfl
theorem RelO.getD {o : Option V} {u : Option Value} {d : V} {d' : Value} (r : RelO o u) (rd : RelV d d') : RelV (o.getD d) (u.getD d') := by
 cases o with
 | none => cases u with
   | none => exact rd
   | some _ => exact (show False from r).elim
 | some _ => cases u with
   | none => exact (show False from r).elim
   | some _ => exact r


theorem KV.val {kvs : List (κ × V)} {vs : List (κ × Value)} (r : KV kvs vs) (k : κ) : RelO (valV kvs k) (valueAt vs k) := by
 unfold KV at r
 induction r with
 | nil => exact True.intro
 | @cons p q ps qs h t ih =>
   obtain ⟨h1, h2⟩ := h
   by_cases e : p.1 = k
   · have e' : q.1 = k := h1.symm.trans e
     have b : valueAt (q :: qs) k = some q.2 := by simp [valueAt, List.find?_cons, e']
     rw [valV_pos e, b]; exact h2
   · have e' : ¬ q.1 = k := fun z => e (h1.trans z)
     have b : valueAt (q :: qs) k = valueAt qs k := by simp [valueAt, List.find?_cons, e']
     rw [valV_neg e, b]; exact ih
theorem KV.any {kvs : List (κ × V)} {vs : List (κ × Value)} (r : KV kvs vs) (k : κ) : (kvs.any fun kv => decide (kv.1 = k)) = vs.any fun kv => decide (kv.1 = k) := by
 unfold KV at r
 induction r with
 | nil => rfl
 | cons h t ih => rw [List.any_cons, List.any_cons, ih, h.1]
theorem KV.repl {kvs : List (κ × V)} {vs : List (κ × Value)} (r : KV kvs vs) (k : κ) {y : V} {u : Value} (ry : RelV y u) :
   KV (kvs.map fun kv => if kv.1 = k then (kv.1, y) else kv) (vs.map fun kv => if kv.1 = k then (kv.1, u) else kv) := by
 unfold KV at r ⊢
 induction r with
 | nil => exact .nil
 | @cons p q ps qs h t ih =>
   rw [List.map_cons, List.map_cons]
   refine .cons ?_ ih
   obtain ⟨h1, h2⟩ := h
   by_cases e : p.1 = k
   · rw [if_pos e, if_pos (h1.symm.trans e)]; exact ⟨h1, ry⟩
   · rw [if_neg e, if_neg (fun z => e (h1.trans z))]; exact ⟨h1, h2⟩
theorem KV.put {kvs : List (κ × V)} {vs : List (κ × Value)} (r : KV kvs vs) (k : κ) {y : V} {u : Value} (ry : RelV y u) : KV (putK kvs k y) (stored vs k u) := by
 unfold putK stored
 rw [r.any k]
 by_cases e : (vs.any fun kv => decide (kv.1 = k)) = true
 · rw [if_pos e, if_pos e]; exact r.repl k ry
 · rw [if_neg e, if_neg e]; exact Paired.snoc r ⟨rfl, ry⟩
theorem KV.drop {kvs : List (κ × V)} {vs : List (κ × Value)} (r : KV kvs vs) (k : κ) : KV (dropK kvs k) (without vs k) := by
 unfold KV at r ⊢
 unfold dropK without
 induction r with
 | nil => exact .nil
 | @cons p q ps qs h t ih =>
   obtain ⟨h1, h2⟩ := h
   rw [List.filter_cons, List.filter_cons]
   by_cases e : p.1 = k
   · have a : ¬ decide (p.1 ≠ k) = true := by simp [e]
     have b : ¬ decide (q.1 ≠ k) = true := by simp [h1.symm.trans e]
     rw [if_neg a, if_neg b]; exact ih
   · have e' : ¬ q.1 = k := fun z => e (h1.trans z)
     have a : decide (p.1 ≠ k) = true := by simp [e]
     have b : decide (q.1 ≠ k) = true := by simp [e']
     rw [if_pos a, if_pos b]; exact .cons ⟨h1, h2⟩ ih
theorem KV.keys {kvs : List (κ × V)} {vs : List (κ × Value)} (r : KV kvs vs) : kvs.map (·.1) = vs.map (·.1) := by
 unfold KV at r
 induction r with
 | nil => rfl
 | cons h t ih => rw [List.map_cons, List.map_cons, ih, h.1]
theorem KV.length {kvs : List (κ × V)} {vs : List (κ × Value)} (r : KV kvs vs) : kvs.length = vs.length := Paired.length r
end



theorem kV_is {P : Program} {w : World} {k : Key} {u : Value} (r : RelV (kV k) u) : (mixKind P w).is k u = true := by
 cases k with
 | inl i => obtain ⟨t, e⟩ := (show ∃ t, u = Value.int i t from r); subst e; exact mixKind_int P w i t
 | inr x => obtain ⟨t, e⟩ := (show ∃ t, u = Value.str x t from r); subst e; exact mixKind_str P w x t
section
variable {P : Program} {w : World} {H : Hp} {h : Heap} {a : Addr}
end


section
variable {X : Cx} {pins : List (Addr × Obj)} {σ : St} {H : Hp} {s : Shared} {a : Addr} {y v : V} {u r : Value} {o : Option V} {A : Around} {E : Value → Shared → Prop}

theorem Inv.big (I : Inv X pins σ H s) : sysModules < s.heap.objs.size := by
 have h : mainGlobals < s.heap.objs.size := (I.mod.glob.keeps I.bk).lt
 exact Nat.lt_trans (by decide) h


end

section
variable {X : Cx} {pins : List (Addr × Obj)} {σ : St} {H : Hp} {s : Shared} {a : Addr} {kvs : List (Key × V)} {k : Key} {u : Value} {A : Around} {E : Value → Shared → Prop}

end




def NoSl (i : Expr) : Prop := ∀ ov iv, subscripted i false ov iv = operate [ov, iv] (getItem ov iv)
theorem subD_of {prog : Program} {w : World} {A : Around} {E : Value → Shared → Prop} {s : Shared} {env : Env} {value slice : Expr} {pos : Pos} {T id : String} {Q : Value → Shared → Prop}
   (hl : typeLookup (.type T) "__getitem__" = pure (some (.builtin id))) (hs : NoSl slice)
   (h : wpAny (model prog w) A (eval value env) (fun o s₁ => wpAny (model prog w) A (eval slice env) (fun i s₂ => s₂.TypeIs o T ∧ wpAny (model prog w) A (getItem o i) Q E s₂) E s₁) E s) :
   wpAny (model prog w) A (eval (.Subscript value slice pos) env) Q E s := by
 refine Subscript_ (wpAny_mono h (fun o s₁ h₁ => wpAny_mono h₁ (fun i s₂ h₂ => ?_) fun _ _ x => x) fun _ _ x => x)
 obtain ⟨hT, h₂⟩ := h₂
 unfold subscriptTail
 refine wpAny_bind ?_
 rw [getitemInPython_of_ne hT.not_modules]
 refine wpAny_bind (wpAny_specialOf hT hl ?_)
 have fin : wpAny (model prog w) A (subscripted slice false o i) (fun r s₃ => wpAny (model prog w) A (letTemporaryGo value o r >>= fun _ => pure r) Q E s₃) E s₂ := by
   rw [hs o i]
   exact wpAny_operating (wpAny_mono h₂ (fun r s₃ h₃ => wpAny_bind (wpAny_letTemporaryGo (wpAny_pure h₃))) fun _ _ x => x)
 first
   | exact wpAny_pure (wpAny_bind fin)
   | exact wpAny_bind (wpAny_pure (wpAny_bind fin))
   | exact wpAny_bind fin

section
variable {X : Cx} {o i e value : Expr} {pos pos' tpos : Pos} {td ty tv : TE}
end



section
variable {X : Cx} {pos : Pos}
end


section
variable {X : Cx} {pins : List (Addr × Obj)} {σ : St} {H : Hp} {s : Shared} {a : Addr} {y d : V} {u r : Value} {o : Option V} {A : Around} {E : Value → Shared → Prop}

end

section
variable {X : Cx} {o e f : Expr} {apos cpos : Pos} {td ty tx : TE}
end


section
variable {X : Cx} {pins : List (Addr × Obj)} {σ : St} {H : Hp} {s : Shared} {a : Addr} {kvs : List (Key × V)} {A : Around} {E : Value → Shared → Prop}
end


section
variable {X : Cx} {pins : List (Addr × Obj)} {σ : St} {H : Hp} {s : Shared} {a : Addr} {y : V} {u : Value} {A : Around} {E : Value → Shared → Prop}

end
end L2

set_option Elab.async false
set_option linter.all false
set_option maxRecDepth 100000
set_option maxHeartbeats 4000000
namespace L2
open PySem PySem.Spec PyProof.Rows
def lfV : Lf → V
 | none => .non
 | some k => kV k
theorem paired_comp {α β γ : Type} {F : α → β → Prop} {G : β → γ → Prop} : ∀ {xs : List α} {ys : List β} {zs : List γ}, Paired F xs ys → Paired G ys zs → Paired (fun a c => ∃ b, F a b ∧ G b c) xs zs
 | _, _, _, .nil, .nil => .nil
 | _, _, _, .cons a r, .cons b q => .cons ⟨_, a, b⟩ (paired_comp r q)
section
variable {P : Program} {w : World} {K : Type} [DecidableEq K]
structure AKd (F : PySem.W.Frag) (Z : VKd P w K) where
 on : Hp → K → V → Prop
 ok : ∀ {X : Cx} {pins : List (Addr × Obj)} {σ : St} {H : Hp} {s : Shared} {k : K} {v : V} {u : Value}, X.K = F → Inv X pins σ H s → RelV v u → on H k v → Z.is s.heap k u
 keep : ∀ {H H' : Hp} {k : K} {v : V}, (∀ b xs, SqT F H b xs → SqT F H' b xs) → on H k v → on H' k v
def KAt {F : PySem.W.Frag} {Z : VKd P w K} (Y : AKd F Z) (H : Hp) (ks : List K) (b : Addr) : Prop := ∃ vs, SqT F H b vs ∧ Paired (fun k v => Y.on H k v) ks vs
variable {F : PySem.W.Frag} {Z : VKd P w K} {Y : AKd F Z} {H H' : Hp} {ks : List K} {b : Addr}
theorem KAt.is {X : Cx} {pins : List (Addr × Obj)} {σ : St} {s : Shared} (hF : X.K = F) (I : Inv X pins σ H s) (e : KAt Y H ks b) : TupIs Z s.heap ks b := by
 obtain ⟨vs, e, r⟩ := e
 obtain ⟨its, rv, ⟨o, h1, h2, n, h3⟩, _⟩ := I.tuple (by rw [hF]; exact e)
 exact ⟨o, its.toArray, n, h1, h2, h3, by simpa using Paired.mapP (paired_comp r rv) (fun k u ⟨v, a, c⟩ => Y.ok hF I c a)⟩
theorem KAt.keep (t : ∀ b xs, SqT F H b xs → SqT F H' b xs) (e : KAt Y H ks b) : KAt Y H' ks b := by
 obtain ⟨vs, e, r⟩ := e
 exact ⟨vs, t _ _ e, Paired.mapP r fun k v q => Y.keep t q⟩
theorem KAt.mono (s : ∀ a o, H a = some o → H' a = some o) (e : KAt Y H ks b) : KAt Y H' ks b := e.keep fun b xs q => by
 rcases q with (q | ⟨o, q⟩) | q
 · exact .inl (.inl (s _ _ q))
 · exact .inl (.inr ⟨o, s _ _ q⟩)
 · exact .inr q
end
def leafA (P : Program) (w : World) (F : PySem.W.Frag) : AKd F (leafK P w) where
 on := fun _ k v => v = lfV k
 ok := fun {X pins σ H s k v u} _ _ r e => by
   subst e
   cases k with
   | none => cases r; rfl
   | some k => exact kV_is (P := P) (w := w) r
 keep := fun _ e => e
section
variable {P : Program} {w : World} {K : Type} [DecidableEq K]
def stOn {F : PySem.W.Frag} {Z : VKd P w K} (Y : AKd F Z) (H : Hp) : Lf ⊕ List K → V → Prop
 | .inl k, v => v = lfV k
 | .inr ks, v => ∃ b, v = .ref b ∧ KAt Y H ks b
def stepA {F : PySem.W.Frag} {Z : VKd P w K} (Y : AKd F Z) : AKd F (stepK Z) where
 on := stOn Y
 ok := fun {X pins σ H s k v u} hF I r e => by
   cases k with
   | inl k => exact (leafA P w F).ok hF I r e
   | inr ks =>
     obtain ⟨b, rfl, e⟩ := e
     cases r
     exact ⟨b, rfl, e.is hF I⟩
 keep := fun {H H' k v} t e => by
   cases k with
   | inl k => exact e
   | inr ks => obtain ⟨b, rfl, e⟩ := e; exact ⟨b, rfl, e.keep t⟩
abbrev N3 (K : Type) := List K × Addr × V
abbrev NRel : List (N3 K) → List (List K × Addr × Value) → Prop := Paired fun p q => p.1 = q.1 ∧ p.2.1 = q.2.1 ∧ RelV p.2.2 q.2.2
def NDict (Z : VKd P w K) (hl : Z.lev + 1 ≤ 8) (a : Addr) (kvs : List (N3 K)) (h : Heap) : Prop :=
 kvs.length ≤ sizeLine ∧ (a == sysModules) = false ∧ ∃ xs, NRel kvs xs ∧ ∃ o es ep, h.get? a = some o ∧ o.ExactDict ∧ o.data = .dict es ep ∧ es.toList = xs.map (entryOfKey (nestK Z hl)) ∧ (xs.map (·.1)).Nodup
def dN (Z : VKd P w K) (hl : Z.lev + 1 ≤ 8) (a : Addr) (kvs : List (N3 K)) : HO := .ext (NDict Z hl a kvs)
structure Nd {F : PySem.W.Frag} {Z : VKd P w K} (Y : AKd F Z) (hl : Z.lev + 1 ≤ 8) (H : Hp) (a : Addr) (kvs : List (N3 K)) : Prop where
 ob : H a = some (dN Z hl a kvs)
 keys : ∀ e ∈ kvs, KAt Y H e.1 e.2.1
variable {F : PySem.W.Frag} {Z : VKd P w K} {Y : AKd F Z} {hl : Z.lev + 1 ≤ 8} {H H' : Hp} {h : Heap} {a b : Addr} {kvs : List (N3 K)}
theorem Nd.mono (s : ∀ a o, H a = some o → H' a = some o) (d : Nd Y hl H a kvs) : Nd Y hl H' a kvs := ⟨s _ _ d.ob, fun e he => (d.keys e he).mono s⟩
theorem nrel_mem {xs : List (List K × Addr × Value)} : ∀ {kvs : List (N3 K)}, NRel kvs xs → ∀ q ∈ xs, ∃ p ∈ kvs, p.1 = q.1 ∧ p.2.1 = q.2.1 := by
 intro kvs r
 induction r with
 | nil => intro q hq; cases hq
 | cons a r ih =>
   intro q hq
   rcases List.mem_cons.mp hq with rfl | hq
   · exact ⟨_, List.mem_cons_self .., a.1, a.2.1⟩
   · obtain ⟨p, hp, e⟩ := ih q hq
     exact ⟨p, List.mem_cons_of_mem _ hp, e⟩
theorem Nd.of {X : Cx} {K : Type} [DecidableEq K] {F : PySem.W.Frag} {Z : VKd X.prog X.w K} {Y : AKd F Z} {hl : Z.lev + 1 ≤ 8} {H : Hp} {a : Addr} {kvs : List (N3 K)} {pins : List (Addr × Obj)} {σ : St} {s : Shared} (hF : X.K = F) (I : Inv X pins σ H s) (d : Nd Y hl H a kvs) : kvs.length ≤ sizeLine ∧ (a == sysModules) = false ∧ ∃ xs, NRel kvs xs ∧ s.heap.DictOfH (nestK Z hl) a xs := by
 obtain ⟨⟨z, y, xs, r, o, es, ep, h1, h2, h3, h4, h5⟩, _⟩ := (show ObjOk X.prog X.w H s.heap a (dN Z hl a kvs) from I.hok a _ d.ob)
 refine ⟨z, y, xs, r, o, es, ep, h1, h2, h3, h4, fun x hx => ?_, h5⟩
 obtain ⟨p, hp, e1, e2⟩ := nrel_mem r x hx
 have := (d.keys p hp).is hF I
 rw [e1, e2] at this
 exact this
theorem nd_ok {h' : Heap} {xs : List (List K × Addr × Value)} (z : kvs.length ≤ sizeLine) (y : (a == sysModules) = false) (r : NRel kvs xs) (dd : h'.DictOfH (nestK Z hl) a xs) : ObjOk P w H h' a (dN Z hl a kvs) := by
 obtain ⟨o, es, ep, h1, h2, h3, h4, _, h5⟩ := dd
 refine ⟨⟨z, y, xs, r, o, es, ep, h1, h2, h3, h4, h5⟩, ⟨o, h1⟩, fun g1 g2 q k => ?_⟩
 obtain ⟨z, y, xs, r, o, es, ep, h1, h2, h3, h4, h5⟩ := q
 exact ⟨z, y, xs, r, o, es, ep, k _ h1, h2, h3, h4, h5⟩
def valN (kvs : List (N3 K)) (k : List K) : Option V := (kvs.find? fun x => decide (x.1 = k)).map (·.2.2)
theorem rel_valN {k : List K} : ∀ {kvs : List (N3 K)} {xs : List (List K × Addr × Value)}, NRel kvs xs → RelO (valN kvs k) ((atKey xs k).map (·.2))
 | _, _, .nil => trivial
 | p :: kvs, q :: xs, .cons a r => by
   have ih := rel_valN (k := k) r
   unfold valN atKey at ih ⊢
   rw [List.find?_cons, List.find?_cons, a.1]
   by_cases e : q.1 = k
   · rw [decide_eq_true e]; exact a.2.2
   · rw [decide_eq_false e]; exact ih
def putN (kvs : List (N3 K)) (k : List K) (b : Addr) (v : V) : List (N3 K) := if (valN kvs k).isSome = true then kvs.map (fun x => if x.1 = k then (x.1, x.2.1, v) else x) else kvs ++ [(k, b, v)]
theorem putN_new {k : List K} {v : V} (h : valN kvs k = none) : putN kvs k b v = kvs ++ [(k, b, v)] := by unfold putN; rw [h]; rfl
theorem nrel_map {k : List K} {v : V} {u : Value} (rv : RelV v u) : ∀ {kvs : List (N3 K)} {xs : List (List K × Addr × Value)}, NRel kvs xs → NRel (kvs.map (fun x => if x.1 = k then (x.1, x.2.1, v) else x)) (xs.map (putAt k u))
 | _, _, .nil => .nil
 | p :: kvs, q :: xs, .cons a r => by
   refine .cons ?_ (nrel_map rv r)
   unfold putAt
   by_cases e : q.1 = k
   · rw [if_pos e, show (fun x : N3 K => if x.1 = k then (x.1, x.2.1, v) else x) p = (p.1, p.2.1, v) from if_pos (a.1.trans e)]; exact ⟨a.1, a.2.1, rv⟩
   · rw [if_neg e, show (fun x : N3 K => if x.1 = k then (x.1, x.2.1, v) else x) p = p from if_neg (fun q => e (a.1.symm.trans q))]; exact a
theorem nrel_app {kvs' : List (N3 K)} {xs' : List (List K × Addr × Value)} : ∀ {kvs : List (N3 K)} {xs : List (List K × Addr × Value)}, NRel kvs xs → NRel kvs' xs' → NRel (kvs ++ kvs') (xs ++ xs')
 | _, _, .nil, q => q
 | _, _, .cons a r, q => .cons a (nrel_app r q)
theorem rel_putN {k : List K} {v : V} {u : Value} {xs : List (List K × Addr × Value)} (r : NRel kvs xs) (rv : RelV v u) : NRel (putN kvs k b v) (storedH xs k b u) := by
 have q := (rel_valN (k := k) r).isSome_eq
 rw [Option.isSome_map] at q
 unfold putN storedH
 by_cases e : (valN kvs k).isSome = true
 · rw [if_pos e, if_pos (by rw [← q]; exact e)]; exact nrel_map rv r
 · rw [if_neg e, if_neg (by rw [← q]; exact e)]; exact nrel_app r (.cons ⟨rfl, rfl, rv⟩ .nil)
theorem putN_len {k : List K} {v : V} : (putN kvs k b v).length ≤ kvs.length + 1 := by
 unfold putN
 split
 · rw [List.length_map]; omega
 · rw [List.length_append]; exact Nat.le_refl _
theorem dN_tup (d : H a = some (dN Z hl a kvs)) {o : HO} : ∀ c xs, SqT F H c xs → SqT F (upd H a o) c xs := fun c xs e => by
 rcases e with (e | ⟨ob, e⟩) | e
 · exact .inl (.inl ((upd_ne (ne_of e d (fun q => nomatch q))).trans e))
 · exact .inl (.inr ⟨ob, (upd_ne (ne_of e d (fun q => nomatch q))).trans e⟩)
 · exact .inr e
theorem Nd.put {k : List K} {v : V} (d : Nd Y hl H a kvs) (e : KAt Y H k b) : Nd Y hl (upd H a (dN Z hl a (putN kvs k b v))) a (putN kvs k b v) := by
 refine ⟨upd_same, fun p hp => ?_⟩
 have t := dN_tup (F := F) d.ob (o := dN Z hl a (putN kvs k b v))
 unfold putN at hp
 split at hp
 · obtain ⟨x, hx, rfl⟩ := List.mem_map.mp hp
   have := (d.keys x hx).keep t
   split <;> exact this
 · rcases List.mem_append.mp hp with q | q
   · exact (d.keys p q).keep t
   · rw [List.mem_singleton.mp q]; exact e.keep t
end
section
variable {X : Cx} {K : Type} [DecidableEq K] {F : PySem.W.Frag} {Z : VKd X.prog X.w K} {Y : AKd F Z} {hl : Z.lev + 1 ≤ 8} {pins : List (Addr × Obj)} {σ : St} {H : Hp} {s : Shared} {a b : Addr} {kvs : List (N3 K)} {k : List K} {v : V} {r : Value} {A : Around} {E : Value → Shared → Prop}
theorem n_getItem {Q : Value → Shared → Prop} (hu : A.units + 1 + (Z.lev + 1) < cLine) (hF : X.K = F) (I : Inv X pins σ H s) (d : Nd Y hl H a kvs) (e : KAt Y H k b) (g : valN kvs k = some v) (h : ∀ w' s', Inv X pins σ H s' → RelV v w' → Q w' s') : wpAny (model X.prog X.w) A (getItem (.ref a) (.ref b)) Q E s := by
 obtain ⟨z, y, xs, rel, dd⟩ := d.of hF I
 obtain ⟨w', hw, rw'⟩ := RelO.some_of (v := v) (o := (atKey xs k).map (·.2)) (by rw [← g]; exact rel_valN rel)
 obtain ⟨p, hp, hp2⟩ := Option.map_eq_some_iff.mp hw
 refine wpAny_getItem_heap (knd := nestK Z hl) hu (e.is hF I) dd hp ?_
 rw [hp2]
 exact h w' _ (I.tok _) rw'
theorem n_notIn {Q : Value → Shared → Prop} (hu : A.units + 1 + (Z.lev + 1) < cLine) (hF : X.K = F) (I : Inv X pins σ H s) (d : Nd Y hl H a kvs) (e : KAt Y H k b) (h : ∀ s', Inv X pins σ H s' → Q (.bool (!(valN kvs k).isSome)) s') : wpAny (model X.prog X.w) A (compareOp .NotIn (.ref b) (.ref a)) Q E s := by
 obtain ⟨z, y, xs, rel, dd⟩ := d.of hF I
 refine wpAny_notIn_heap (knd := nestK Z hl) hu (e.is hF I) y dd ?_
 have q := (rel_valN (k := k) rel).isSome_eq
 rw [Option.isSome_map] at q
 rw [← q]
 exact h _ (I.tok _)
theorem n_setItem {Q : Unit → Shared → Prop} (hu : A.units + 1 + (Z.lev + 1) < cLine) (hF : X.K = F) (I : Inv X pins σ H s) (d : Nd Y hl H a kvs) (e : KAt Y H k b) (hz : kvs.length < sizeLine) (rv : RelV v r) (h : ∀ s', Inv X pins σ (upd H a (dN Z hl a (putN kvs k b v))) s' → Q () s') : wpAny (model X.prog X.w) A (setItem (.ref a) (.ref b) r) Q E s := by
 obtain ⟨z, y, xs, rel, dd⟩ := d.of hF I
 have hxz : xs.length ≤ sizeLine := by rw [← Paired.length rel]; exact z
 refine wpAny_setItem_heap (knd := nestK Z hl) (hsz := hxz) hu (e.is hF I) dd fun h' dd' hs => h _ ?_
 have he : ∃ q, h'.get? a = some q := let ⟨q, _, _, hq, _⟩ := dd'; ⟨q, hq⟩
 have := putN_len (kvs := kvs) (k := k) (b := b) (v := v)
 exact I.write (x := a) (e := a) (by rw [d.ob]; exact True.intro) (.inl rfl) (fun c q hc z => (hs.2 c hc).trans z) he (nd_ok (by omega) y (rel_putN rel rv) dd')
variable {o i value kx : Expr} {pos pos' : Pos} {td ty tv : TE}
def tNGet {P : Program} {w : World} {K : Type} [DecidableEq K] {F : PySem.W.Frag} {Z : VKd P w K} (Y : AKd F Z) (hl : Z.lev + 1 ≤ 8) (td ty : TE) : TE := fun σ H Q => td σ H fun x H1 => ty σ H1 fun y H2 => ∃ a kvs k b v, x = .ref a ∧ y = .ref b ∧ Nd Y hl H2 a kvs ∧ KAt Y H2 k b ∧ valN kvs k = some v ∧ Q v H2
def tNNotIn {P : Program} {w : World} {K : Type} [DecidableEq K] {F : PySem.W.Frag} {Z : VKd P w K} (Y : AKd F Z) (hl : Z.lev + 1 ≤ 8) (ty td : TE) : TE := fun σ H Q => ty σ H fun y H1 => td σ H1 fun x H2 => ∃ a kvs k b, x = .ref a ∧ y = .ref b ∧ Nd Y hl H2 a kvs ∧ KAt Y H2 k b ∧ Q (.bl (!(valN kvs k).isSome)) H2
def sNPut {P : Program} {w : World} {K : Type} [DecidableEq K] {F : PySem.W.Frag} {Z : VKd P w K} (Y : AKd F Z) (hl : Z.lev + 1 ≤ 8) (td ty tv : TE) : TS := fun D σ H => tv σ H fun v H1 => td σ H1 fun x H2 => ty σ H2 fun y H3 => ∃ a kvs k b, x = .ref a ∧ y = .ref b ∧ Nd Y hl H3 a kvs ∧ KAt Y H3 k b ∧ kvs.length < sizeLine ∧ D.nx σ (upd H3 a (dN Z hl a (putN kvs k b v)))
def tNOne {P : Program} {w : World} {K : Type} [DecidableEq K] {F : PySem.W.Frag} {Z : VKd P w K} (Y : AKd F Z) (hl : Z.lev + 1 ≤ 8) (tk tv : TE) : TE := fun σ H Q => ∀ p, H p = none → tk σ (upd H p (dN Z hl p [])) fun y H1 => tv σ H1 fun v H2 => ∃ k b, y = .ref b ∧ H2 p = some (dN Z hl p []) ∧ KAt Y H2 k b ∧ Q (.ref p) (upd H2 p (dN Z hl p [(k, b, v)]))
theorem pe_nget (Y : AKd F Z) (hl : Z.lev + 1 ≤ 8) (hF : X.K = F) (hu : X.A.units + 1 + (Z.lev + 1) < cLine) (ho : PE X o td) (hi : PE X i ty) (hs : NoSl i) : PE X (.Subscript o i pos) (tNGet Y hl td ty) := by
 intro pins s σ H Q I h
 refine subD_of PySem.F.slot_dict_getitem.lookup hs (thn (ho pins s σ H _ I h) fun u s1 ⟨x, H1, I1, rx, q1⟩ => thn (hi pins s1 σ H1 _ I1 q1) fun iv s2 ⟨y, H2, I2, ry, a, kvs, k, b, v, ex, ey, d, e, g, q2⟩ => ?_)
 subst ex ey
 obtain rfl : u = Value.ref a := rx
 obtain rfl : iv = Value.ref b := ry
 obtain ⟨_, _, xs, _, dd⟩ := d.of hF I2
 exact ⟨dd.typeIs, n_getItem hu hF I2 d e g fun w' s3 I3 rw' => ⟨v, H2, I3, rw', q2⟩⟩
theorem pc_nnotin (Y : AKd F Z) (hl : Z.lev + 1 ≤ 8) (hF : X.K = F) (hu : X.A.units + 1 + (Z.lev + 1) < cLine) (hi : PE X i ty) (ho : PE X o td) : PC X .NotIn i o (tNNotIn Y hl ty td) := by
 intro pins s σ H Q I h
 refine thn (hi pins s σ H _ I h) fun iv s1 ⟨y, H1, I1, ry, q1⟩ => thn (ho pins s1 σ H1 _ I1 q1) fun u s2 ⟨x, H2, I2, rx, a, kvs, k, b, ex, ey, d, e, q2⟩ => ?_
 subst ex ey
 obtain rfl : u = Value.ref a := rx
 obtain rfl : iv = Value.ref b := ry
 exact n_notIn hu hF I2 d e fun s3 I3 => ⟨.bl (!(valN kvs k).isSome), H2, I3, rfl, q2⟩
theorem ps_nput (Y : AKd F Z) (hl : Z.lev + 1 ≤ 8) (hF : X.K = F) (hu : X.A.units + 1 + (Z.lev + 1) < cLine) (ho : PE X o td) (hi : PE X i ty) (hv : PE X value tv) (hs : swapsWith value (some (.Subscript o i pos')) pos.line X.env = pure false) :
   PS X (.Assign [.Subscript o i pos'] value pos) (sNPut Y hl td ty tv) := by
 intro pins s σ H D I h
 refine wpAny_Assign_Subscript (thn (hv pins s σ H _ I h) fun r s1 ⟨v, H1, I1, rv, q1⟩ => thn (ho pins s1 σ H1 _ I1 q1) fun u s2 ⟨x, H2, I2, rx, q2⟩ => thn (hi pins s2 σ H2 _ I2 q2) fun iv s3 ⟨y, H3, I3, ry, a, kvs, k, b, ex, ey, d, e, hz, q3⟩ => ?_) hs
 subst ex ey
 obtain rfl : u = Value.ref a := rx
 obtain rfl : iv = Value.ref b := ry
 exact n_setItem hu hF I3 d e hz rv fun s4 I4 => ⟨σ, _, I4, q3⟩
theorem pe_none1 (Y : AKd F Z) (hl : Z.lev + 1 ≤ 8) (hF : X.K = F) (hu : X.A.units + (Z.lev + 1) < cLine) {tk : TE} (hk : PE X kx tk) (hv : PE X value tv) : PE X (.Dict [some kx] [value] pos) (tNOne Y hl tk tv) := by
 intro pins s σ H Q I q
 have hn := I.hok.fresh (Nat.le_refl s.heap.objs.size)
 have y0 : (s.heap.objs.size == sysModules) = false := beq_eq_false_iff_ne.mpr (Ne.symm (Nat.ne_of_lt I.big))
 have I1 := I.laid (a := s.heap.objs.size) (o := dN Z hl s.heap.objs.size []) (h' := s.heap.push { cls := .type "dict", data := .dict #[] }) (t' := s.toks) (fun _ _ q => Heap.get?_push_of_some _ q) (Nat.le_refl _) (nd_ok (xs := []) (Nat.zero_le _) y0 .nil (Heap.DictOfH.new s.heap))
 refine wpAny_Dict_any rfl rfl (fun z => nomatch z) (by show 1 ≤ 15; decide) (pairTrees_cons_walk (thn (hk pins _ σ _ _ I1 (q _ hn)) fun u s1 ⟨x, H1, I1', rx, q1⟩ => thn (hv pins s1 σ H1 _ I1' q1) fun vu s2 ⟨v, H2, I2, rv, k, b, ex, e, ek, q2⟩ => pairTrees_nil_walk ?_))
 subst ex
 obtain rfl : u = Value.ref b := rx
 have d0 : Nd Y hl H2 s.heap.objs.size [] := ⟨e, fun x hx => nomatch hx⟩
 obtain ⟨z, y, xs, rel, dd⟩ := d0.of hF I2
 cases rel
 unfold storeAll
 refine wpAny_forIn_list _ (fun rest _ s' => (rest = [(Value.ref b, vu)] ∧ s' = s2) ∨ (rest = [] ∧ EP X pins σ Q (Value.ref s.heap.objs.size) s')) _ ?_ ?_ _ _ (.inl ⟨rfl, rfl⟩)
 · rintro x rest u s' (⟨e1, rfl⟩ | ⟨e1, _⟩)
   · cases e1
     refine wpAny_bind (wpAny_dictSet_heap (knd := nestK Z hl) (hsz := Nat.zero_le _) hu (ek.is hF I2) dd fun h' dd' hs => wpAny_pure (.inr ⟨rfl, .ref s.heap.objs.size, _, ?_, rfl, q2⟩))
     have he : ∃ q, h'.get? s.heap.objs.size = some q := let ⟨q, _, _, hq, _⟩ := dd'; ⟨q, hq⟩
     exact I2.write (x := s.heap.objs.size) (e := s.heap.objs.size) (by rw [e]; exact True.intro) (.inl rfl) (fun c q hc z => (hs.2 c hc).trans z) he (nd_ok (by show 1 ≤ sizeLine; decide) y (.cons ⟨rfl, rfl, rv⟩ .nil) dd')
   · cases e1
 · rintro u s' (⟨e1, _⟩ | ⟨_, q⟩)
   · cases e1
   · exact q
end
end L2

set_option Elab.async false
set_option linter.all false
set_option maxRecDepth 100000
set_option maxHeartbeats 4000000
namespace L2
open PySem PySem.Spec PyProof.Rows
section
variable {X : Cx} {K : Type} [DecidableEq K] {F : PySem.W.Frag} {Z : VKd X.prog X.w K}
def rEqN {P : Program} {w : World} {K : Type} [DecidableEq K] {F : PySem.W.Frag} {Z : VKd P w K} (Y : AKd F Z) : R2 := fun x y H Q => ∃ b b' ks ks', x = .ref b ∧ y = .ref b' ∧ KAt Y H ks b ∧ KAt Y H ks' b' ∧ Q (.bl (decide (ks = ks'))) H
theorem op_eqN (Y : AKd F Z) (hF : X.K = F) (hu : X.A.units + (Z.lev + 1) < cLine) : OpR X (compareOp .Eq) (rEqN Y) := by
 intro pins s σ H x y v u Q I rx ry h
 obtain ⟨b, b', ks, ks', rfl, rfl, e1, e2, q⟩ := h
 cases rx; cases ry
 obtain ⟨o, items, n, h1, h2, h3, h4⟩ := e1.is hF I
 obtain ⟨o', items', n', h1', h2', h3', h4'⟩ := e2.is hF I
 have l1 : ks.length = items.size := by rw [Paired.length h4, Array.length_toList]
 have l2 : ks'.length = items'.size := by rw [Paired.length h4', Array.length_toList]
 refine SeqAt.eq_tupleAt (e := fun j => decide (ks[j]? = ks'[j]?)) ⟨o, h1, h2, n, h3⟩ ⟨o', h1', h2', n', h3'⟩ (by omega) (fun j j1 j2 => ?_) ⟨.bl (decide (ks = ks')), H, I, ?_, q⟩
 · obtain ⟨k, ek, hk⟩ := paired_at' h4 j items[j] (by simp [j1])
   obtain ⟨k', ek', hk'⟩ := paired_at' h4' j items'[j] (by simp [j2])
   rw [ek, ek', show decide (some k = some k') = decide (k = k') by simp]
   exact Z.eq (by show X.A.units + 1 + Z.lev < cLine; omega) hk hk'
 · show Value.bool _ = Value.bool _
   rw [← l1, ← l2, all_eq_dec]
end
abbrev ZM (P : Program) (w : World) := stepK (leafK P w)
abbrev YL (P : Program) (w : World) (F : PySem.W.Frag) := leafA P w F
abbrev YM (P : Program) (w : World) (F : PySem.W.Frag) : AKd F (ZM P w) := stepA (leafA P w F)
theorem ZM_lev (P : Program) (w : World) : (ZM P w).lev + 1 ≤ 8 := by show 2 ≤ 8; decide
theorem hn0 {A : Around} {P : Program} {w : World} (h : A.units + 64 < cLine) : A.units + ((leafK P w).lev + 1) < cLine := by show A.units + 1 < cLine; omega
theorem hn1 {A : Around} {P : Program} {w : World} (h : A.units + 64 < cLine) : A.units + ((ZM P w).lev + 1) < cLine := by show A.units + 2 < cLine; omega
theorem hn2 {A : Around} {P : Program} {w : World} (h : A.units + 64 < cLine) : A.units + 1 + ((ZM P w).lev + 1) < cLine := by show A.units + 1 + 2 < cLine; omega
def pairK (k s : Str) : List Lf := [some (.inr k), some (.inr s)]
def markK (m : (Str × Str) × Nat) : List (Lf ⊕ List Lf) := [.inr (pairK m.1.1 m.1.2), .inl (some (.inl m.2))]
theorem pairK_inj {k s k' s' : Str} : pairK k s = pairK k' s' ↔ (k, s) = (k', s') := by
 unfold pairK
 constructor
 · intro h; injection h with h1 h2; injection h2 with h2 _; injection h1 with h1; injection h2 with h2; injection h1 with h1; injection h2 with h2; rw [h1, h2]
 · intro h; injection h with h1 h2; rw [h1, h2]
theorem markK_inj {m m' : (Str × Str) × Nat} : markK m = markK m' ↔ m = m' := by
 unfold markK
 constructor
 · intro h
   injection h with h1 h2
   injection h2 with h2 _
   injection h1 with h1
   injection h2 with h2; injection h2 with h2; injection h2 with h2
   have e := pairK_inj.mp h1
   obtain ⟨⟨a, b⟩, n⟩ := m
   obtain ⟨⟨a', b'⟩, n'⟩ := m'
   injection e with e1 e2
   have h2 : n = n' := Int.ofNat.inj h2
   simp only at e1 e2
   rw [e1, e2, h2]
 · rintro rfl; rfl
section
variable {P : Program} {w : World} {F : PySem.W.Frag} {H : Hp}
theorem pair_at {a : Addr} {k s : Str} (h : SqT F H a [.str k, .str s]) : KAt (YL P w F) H (pairK k s) a := ⟨_, h, .cons rfl (.cons rfl .nil)⟩
theorem mark_at {b s : Addr} {m : (Str × Str) × Nat} (h : SqT F H b [.ref s, .int m.2]) (h2 : SqT F H s [.str m.1.1, .str m.1.2]) : KAt (YM P w F) H (markK m) b := ⟨_, h, .cons ⟨s, rfl, pair_at h2⟩ (.cons rfl .nil)⟩
end
section
variable {X : Cx} {P : Program} {w : World} {K : Type} [DecidableEq K] {F : PySem.W.Frag} {Z : VKd P w K} {o i value kx : Expr} {pos pos' : Pos} {td ty tv tk : TE}
theorem peP_nget (Y : AKd F Z) (hl : Z.lev + 1 ≤ 8) (hP : X.prog = P) (hw : X.w = w) (hF : X.K = F) (hu : X.A.units + 1 + (Z.lev + 1) < cLine) (ho : PE X o td) (hi : PE X i ty) (hs : NoSl i) : PE X (.Subscript o i pos) (tNGet Y hl td ty) := by
 subst hP hw; exact pe_nget Y hl hF hu ho hi hs
theorem pcP_nnotin (Y : AKd F Z) (hl : Z.lev + 1 ≤ 8) (hP : X.prog = P) (hw : X.w = w) (hF : X.K = F) (hu : X.A.units + 1 + (Z.lev + 1) < cLine) (hi : PE X i ty) (ho : PE X o td) : PC X .NotIn i o (tNNotIn Y hl ty td) := by
 subst hP hw; exact pc_nnotin Y hl hF hu hi ho
theorem psP_nput (Y : AKd F Z) (hl : Z.lev + 1 ≤ 8) (hP : X.prog = P) (hw : X.w = w) (hF : X.K = F) (hu : X.A.units + 1 + (Z.lev + 1) < cLine) (ho : PE X o td) (hi : PE X i ty) (hv : PE X value tv) (hs : swapsWith value (some (.Subscript o i pos')) pos.line X.env = pure false) :
   PS X (.Assign [.Subscript o i pos'] value pos) (sNPut Y hl td ty tv) := by
 subst hP hw; exact ps_nput Y hl hF hu ho hi hv hs
theorem peP_none1 (Y : AKd F Z) (hl : Z.lev + 1 ≤ 8) (hP : X.prog = P) (hw : X.w = w) (hF : X.K = F) (hu : X.A.units + (Z.lev + 1) < cLine) (hk : PE X kx tk) (hv : PE X value tv) : PE X (.Dict [some kx] [value] pos) (tNOne Y hl tk tv) := by
 subst hP hw; exact pe_none1 Y hl hF hu hk hv
end
end L2

set_option Elab.async false
set_option linter.all false
set_option maxRecDepth 100000
set_option maxHeartbeats 4000000
namespace L2
open PySem PySem.Spec PyProof.Rows
section
variable {prog : Program} {w : World} {A : Around} {E : Value → Shared → Prop} {s : Shared}
theorem collectCode_rev {R : Result → Shared → Prop} (hh : A.handled = none) {I l : Addr} {items : List Value} (hne : l ≠ I) (hit : s.heap.IsRevIter I l ((items.toArray.size : Int) - 1)) (hl : s.heap.IsList l items.toArray) (hn : items.toArray.size ≤ sizeLine)
   (hR : ∀ h' tk acc' c', (∀ b o, b ≠ I → s.heap.get? b = some o → h'.get? b = some o) → h'.get? s.heap.objs.size = some { cls := .type "list", dict := none, data := .seq acc' c', slots := #[] } → acc'.toList = items.reverse → R (.ok (.ret (.ref s.heap.objs.size))) { s with heap := h', toks := tk }) :
   codeAny (model prog w) A (.builtin "proto.collect" ⟨[.ref I], []⟩) R s := by
 refine codeAny_builtin F.entry_proto_collect ?_; rw [Around.under_plainId F.plain_proto_collect _]
 show wpAny _ A.in1 (newList [] >>= fun l => again (.builtin "list.__iadd__" ⟨[l, .ref I], []⟩)) _ _ s; refine wpAny_bind (wpAny_newObj_type ?_)
 refine wpAny_pure ⟨plainId_quiet F.plain_list_iadd _, codeAny_builtin F.entry_list_iadd ?_⟩
 rw [Around.under_plainId F.plain_list_iadd _]
 have hS : (s.heap.push { cls := .type "list", data := .seq #[] }).get? s.heap.objs.size = some { cls := .type "list", data := .seq #[] } := Heap.get?_push_size _ rfl
 have hlt : l < s.heap.objs.size := by obtain ⟨o, ho, _⟩ := hl; exact Heap.lt_size ho
 show wpAny _ A.in1 (Builtin.List.listExtendWith (.ref s.heap.objs.size) (.ref I) (.ref s.heap.objs.size)) _ _ _
 exact extend_rev (R := R) (s := { s with heap := s.heap.push { cls := .type "list", data := .seq #[] } }) hh hne (hit.at fun o e => Heap.get?_push_of_some _ e) (hl.at fun o e => Heap.get?_push_of_some _ e) _ (Nat.ne_of_gt hlt) _ _ hS hn fun h' tk acc' c' hk hS' hacc =>
   hR h' tk acc' c' (fun b o hb e => hk b o (Nat.ne_of_lt (Heap.lt_size e)) hb (Heap.get?_push_of_some _ e)) hS' (items_rev hacc)
theorem collect_rev {Q : List Value → Shared → Prop} (hh : A.handled = none) {I l : Addr} {items : List Value} (hne : l ≠ I) (hit : s.heap.IsRevIter I l ((items.toArray.size : Int) - 1)) (hl : s.heap.IsList l items.toArray) (hn : items.toArray.size ≤ sizeLine)
   (hQ : ∀ h' tk, (∀ b o, b ≠ I → s.heap.get? b = some o → h'.get? b = some o) → Q items.reverse { s with heap := h', toks := tk }) : wpAny (model prog w) A (collect (.ref I)) Q E s := by
 unfold collect
 refine wpAny_bind (wpAny_runValue (collectCode_rev hh hne hit hl hn fun h' tk acc' c' hk hS' hacc => ?_))
 show wpAny _ A (load s.heap.objs.size >>= _) _ _ _
 refine wpAny_bind (wpAny_load hS' (wpAny_pure ?_))
 show Q acc'.toList _
 rw [hacc]
 exact hQ h' tk hk
theorem join_rev {x : Str} {t : Tok} {Q : Value → Shared → Prop} (hh : A.handled = none) {I l : Addr} {items : List Value} {ys : List Str} (hne : l ≠ I) (hit : s.heap.IsRevIter I l ((items.toArray.size : Int) - 1)) (hl : s.heap.IsList l items.toArray) (hn : items.toArray.size ≤ sizeLine) (hi : StrsAre items.reverse ys) (hok : (ys.map (·.length)).sum + ys.length * x.length ≤ 16777216)
   (hQ : ∀ h' t' k, (∀ b o, b ≠ I → s.heap.get? b = some o → h'.get? b = some o) → Q (.str (Txt.join x ys) t') { s with heap := h', toks := k }) : wpAny (model prog w) A (call (.builtin "str.join") [.str x t, .ref I]) Q E s := by
 refine wpAny_call (codeAny_call_builtin F.slot_str_join.plain F.entry_str_join (F.slot_str_join.check _ _ _ _ _ _ _ _ (typeIs_str _ _ _) (F.args_str_join_2 _ _) ?_))
 rw [join_tree_other]
 refine wpAny_bind (wpAny_typeOf hit.typeIs ?_)
 show wpAny _ A.in1 ((pyIter (.ref I)).tryCatch _ >>= fun it => collect it >>= fun items => joinTail x items) _ _ s
 refine wpAny_bind (wpAny_tryCatch (wpAny_pyIter_revIter hit ?_))
 refine wpAny_bind (collect_rev (A := A.in1) hh hne hit hl hn fun h' tk hk => ?_)
 obtain ⟨lt, hv, ht⟩ := strsAre_values hi
 rw [hv]
 have ok := joinOk_of hok
 subst ht
 unfold JoinOk at ok
 rw [Bool.not_eq_true'] at ok
 have g : Gives (joinTail x (strValues lt)) (joinMade x lt) := by
   have g0 := gives_joinTail x lt ok
   cases lt with
   | nil => exact g0
   | cons p r => cases r with
     | nil => exact g0
     | cons q r' => exact g0
 exact g prog w A (wants Q E) _ (post_join lt ⟨joinFit_length ok, fun t' k => hQ h' t' k hk⟩)
end
section
variable {X : Cx} {e : Expr}
def tJoinRev (K : PySem.W.Frag) (tx : TE) (ta : TA) : TE := fun σ H Q => tx σ H fun x H0 => ∃ z, x = .str z ∧ ta σ H0 fun vs H1 => ∃ p, ∃ ys : List Str, vs = [.ref p] ∧ SqL K H1 p (ys.map V.str) ∧ (ys.map (·.length)).sum + ys.length * z.length ≤ 16777216 ∧ Q (.str (Txt.join z ys.reverse)) H1
theorem strsAre_of : ∀ {its : List Value} {ys : List Str}, Vals (ys.map V.str) its → StrsAre its ys
 | _, [], h => by cases h; exact .nil
 | _, y :: ys, h => by cases h with | cons a b => obtain ⟨t, rfl⟩ := a; exact .cons _ _ (strsAre_of b)
theorem pe_joinrev {o : Expr} {apos p2 pos2 cpos : Pos} {tx : TE} {ta : TA} (hc : X.calm = true) (hg2 : Gl X "reversed") (hm2 : X.mg "reversed" = none) (hx : PE X o tx) (ha : PA X [e] ta)
   (hbase : attributeBase o "join" X.env (eval o X.env) = eval o X.env := by rfl)
   (hfew : ((backTo cpos (starEach [.Call (.Name "reversed" p2) [e] [] pos2] X.env)).all (fun x => !x.1) && (backToKw cpos (keywordEach [] X.env)).all (fun x => x.1.isSome)
     && decide (([.Call (.Name "reversed" p2) [e] [] pos2] : List Expr).length + ([] : List Keyword).length + (if ([] : List Keyword).isEmpty then 0 else 1) < 30)) = true := by rfl)
   (hline : (apos.endLine == cpos.line) = true := by rfl)
   (h1 : starEach [.Call (.Name "reversed" p2) [e] [] pos2] X.env = [(false, eval (.Call (.Name "reversed" p2) [e] [] pos2) X.env)] := by rfl) (h2 : starEach [e] X.env = [(false, eval e X.env)] := by rfl) :
   PE X (.Call (.Attribute o "join" apos) [.Call (.Name "reversed" p2) [e] [] pos2] [] cpos) (tJoinRev X.K tx ta) := by
 intro pins s σ H Q I h
 refine wpAny_Call_method_late hbase hfew hline rfl (thn (hx pins s σ H _ I h) fun v s1 ⟨x, H0, I0, r0, z, hz, q0⟩ => ?_)
 subst hz
 obtain ⟨t1, t2⟩ := tyV_is I0 r0 (T := "str") rfl
 refine ⟨"str", "str.join", F.plainAttrs_str, F.slot_str_join, rfl, t1, t2, ?_⟩
 rw [h1]
 refine Calls.callWith_builtin rfl (Calls.evalArgs_plain ?_)
 refine Calls.spliced_cons ?_
 refine wpAny_Call_Name_kw (ld_blt I0 hg2 hm2 boot_reversed ?_ (by decide) (by decide))
 refine PyProof.Rows.callWith_type1 (thn (ha pos2 pins s1 σ H0 _ I0 q0) fun us s2 ⟨vs, H1, I1, r1, q1⟩ => ?_) h2 rfl
 obtain ⟨p, ys, rfl, hq, hok, q⟩ := q1
 obtain ⟨u, rfl, ru⟩ := vals1 r1
 cases ru
 obtain ⟨its, rv, pl, hz⟩ := I1.list hq
 have hlen := rv.length
 refine call_reversed_list pl.isList ?_
 refine Calls.spliced_nil ?_
 have hnew : s2.heap.objs.size ≤ s2.heap.objs.size := Nat.le_refl _
 have I2 : Inv X pins σ H1 { s2 with heap := s2.heap.push (revObj p ((its.toArray.size : Int) - 1)) } := I1.kept (t' := s2.toks) fun b o e => Heap.get?_push_of_some _ e
 have hpl : p < s2.heap.objs.size := by obtain ⟨o, ho, _⟩ := pl.isList; exact Heap.lt_size ho
 have f0 := I1.fpOk hnew (I1.hok.fresh hnew)
 obtain ⟨t0, rfl⟩ := r0
 refine join_rev (s := { s2 with heap := s2.heap.push (revObj p ((its.toArray.size : Int) - 1)) }) (items := its) (I.ok.hd hc) (Nat.ne_of_lt hpl) ⟨_, Heap.get?_push_size _ rfl, rfl, rfl⟩ (pl.isList.at fun o e => Heap.get?_push_of_some _ e) (by rw [List.size_toArray]; omega) (ys := ys.reverse) (strsAre_of (by rw [List.map_reverse]; exact rv.reverse)) (by rw [List.map_reverse, List.sum_reverse, List.length_reverse]; exact hok) fun h' t' tk hk => ?_
 have I4 := I2.turned (t' := tk) (h' := h') (it := s2.heap.objs.size) hk f0.1 f0.2.1 f0.2.2.2.1 f0.2.2.2.2.1 f0.2.2.2.2.2
 exact ⟨.str _, _, I4, ⟨t', rfl⟩, q⟩
theorem peK_joinrev (K : PySem.W.Frag) (h : X.K = K) {o : Expr} {apos p2 pos2 cpos : Pos} {tx : TE} {ta : TA} (hc : X.calm = true) (hg2 : Gl X "reversed") (hm2 : X.mg "reversed" = none) (hx : PE X o tx) (ha : PA X [e] ta)
 (hbase : attributeBase o "join" X.env (eval o X.env) = eval o X.env := by rfl)
 (hfew : ((backTo cpos (starEach [.Call (.Name "reversed" p2) [e] [] pos2] X.env)).all (fun x => !x.1) && (backToKw cpos (keywordEach [] X.env)).all (fun x => x.1.isSome)
   && decide (([.Call (.Name "reversed" p2) [e] [] pos2] : List Expr).length + ([] : List Keyword).length + (if ([] : List Keyword).isEmpty then 0 else 1) < 30)) = true := by rfl)
 (hline : (apos.endLine == cpos.line) = true := by rfl)
 (h1 : starEach [.Call (.Name "reversed" p2) [e] [] pos2] X.env = [(false, eval (.Call (.Name "reversed" p2) [e] [] pos2) X.env)] := by rfl) (h2 : starEach [e] X.env = [(false, eval e X.env)] := by rfl) :
 PE X (.Call (.Attribute o "join" apos) [.Call (.Name "reversed" p2) [e] [] pos2] [] cpos) (tJoinRev K tx ta) := by subst h; exact pe_joinrev hc hg2 hm2 hx ha hbase hfew hline h1 h2
end
end L2

set_option Elab.async false
set_option linter.all false
set_option maxRecDepth 100000
set_option maxHeartbeats 4000000
namespace L2
open PySem PySem.Spec PyProof.Rows
section
variable {prog : Program} {w : World} {A : Around} {E : Value → Shared → Prop} {s : Shared} {d it i ep : Nat} {od : Obj} {es : Array DictEntry}
theorem raw_iter {Q : Value → Shared → Prop} (nd : (d == sysModules) = false) (g : s.heap.get? d = some od) (c : od.ExactDict) (dt : od.data = .dict es ep)
   (q : Q (.ref s.heap.objs.size) { s with heap := s.heap.push { cls := .type "dict_keyiterator", data := .fields #[.ref d, .int 0 0, .int es.size 0, .int ep 0] } }) : wpAny (model prog w) A (pyIter (.ref d)) Q E s := by
 have ty : s.TypeIs (.ref d) "dict" := ⟨od, g, c.1⟩
 refine wpAny_pyIter_slot ty PySem.F.slot_dict_iter (wpAny_call_entry PySem.F.slot_dict_iter ty PySem.F.entry_dict_iter ?_ (PySem.F.args_dict_iter_1 _))
 unfold Builtin.«dict.__iter__»; refine wpAny_bind ?_
 unfold Builtin.Dict.dictSlotNone; refine wpAny_bind (wpAny_notOrdered_dict ty ?_)
 show wpAny _ _ (pure (Value.ref d)) _ _ _; refine wpAny_pure ?_
 show wpAny _ _ (Builtin.Dict.showsAll d >>= _) _ _ _
 unfold Builtin.Dict.showsAll; rw [if_neg (fun z => by rw [nd] at z; cases z)]; refine wpAny_bind (wpAny_pure ?_)
 refine wpAny_bind (wpAny_dictEntries g dt (wpAny_bind (wpAny_dictEpoch g dt ?_)))
 refine wpAny_bind (wpAny_newObj_type (wpAny_pure ⟨_, rfl, "dict_keyiterator", _, ⟨_, Heap.get?_push_size _ rfl, rfl⟩, PySem.F.slot_dict_keyiterator_next.lookup, ?_⟩))
 simpa [rawInt] using q
theorem raw_next {Q : Option Value → Shared → Prop} (it0 : s.heap.IsKeyIter it d i es.size ep) (g : s.heap.get? d = some od) (dt : od.data = .dict es ep) (hi : i < es.size)
   (q : ∀ h', h'.IsKeyIter it d (i + 1) es.size ep → Heap.SameBut it s.heap h' → Q (some es[i].key) { s with heap := h' }) : wpAny (model prog w) A (pyNext (.ref it)) Q E s := by
 obtain ⟨o, ho, hc, hd⟩ := id it0
 unfold pyNext; refine wpAny_bind (wpAny_attempt (wpAny_callSpecial?_slot (name := Str.ofString "__next__") it0.typeIs PySem.F.slot_dict_keyiterator_next (wpAny_call_entry PySem.F.slot_dict_keyiterator_next it0.typeIs PySem.F.entry_dict_keyiterator_next ?_ (PySem.F.args_dict_keyiterator_next_1 _))))
 refine wpAny_bind (wpAny_pure (wpAny_bind (wpAny_bind ?_)))
 first | refine wpAny_bind (wpAny_typeNameOfWhole_keyiter it0.typeIs (wpAny_pure ?_)) | refine wpAny_bind (wpAny_typeNameOf_keyiter it0.typeIs (wpAny_pure ?_))
 refine wpAny_bind (wpAny_fieldsOf ho hd ?_); simp only [(show Builtin.Dict_items.ownsTuple "dict_keyiterator" = false by decide), Bool.false_eq_true, if_false]
 show wpAny _ _ (if (Value.ref d == Value.none) = true then _ else _) _ _ _; rw [if_neg (fun z : (Value.ref d == Value.none) = true => nomatch z)]
 refine wpAny_bind (wpAny_pure (wpAny_bind (wpAny_dictEntries g dt ?_)))
 rw [if_neg (by simp)]; refine wpAny_bind (wpAny_pure (wpAny_bind (wpAny_dictEpoch g dt ?_)))
 rw [if_neg (by simp)]; refine wpAny_pure ?_
 simp only [show ¬ ((i : Int) < 0) by omega, if_false, Int.toNat_natCast, Array.getElem?_eq_getElem hi]
 refine wpAny_bind ?_
 first | refine wpAny_bind (wpAny_typeNameOfWhole_keyiter it0.typeIs (wpAny_pure ?_)) | refine wpAny_bind (wpAny_typeNameOf_keyiter it0.typeIs (wpAny_pure ?_))
 refine wpAny_bind (wpAny_isOneOf_keyiter it0.typeIs ?_); show wpAny _ _ (setField (.ref it) 1 (rawInt ((i : Int) + 1)) >>= _) _ _ _
 refine wpAny_bind (wpAny_setField ho hd (by simp) ?_)
 have it1 : (s.heap.update it (Obj.mapFields (·.setIfInBounds 1 (rawInt ((i : Int) + 1))))).IsKeyIter it d (i + 1) es.size ep := ⟨_, Heap.get?_update_self _ ho (Obj.isFreed_of_fields (Obj.data_mapFields hd _)), (Obj.cls_mapFields ..).trans hc, by rw [Obj.data_mapFields hd]; simp [rawInt]⟩
 refine wpAny_bind (wpAny_holding (wpAny_bind (wpAny_isOneOf_keyiter (s := { s with heap := s.heap.update it (Obj.mapFields (·.setIfInBounds 1 (rawInt ((i : Int) + 1)))) }) it1.typeIs ?_)))
 show wpAny _ _ (pure es[i].key) _ _ _; exact wpAny_pure (wpAny_pure ⟨_, rfl, wpAny_pure (q _ it1 (Heap.SameBut.update ..))⟩)
theorem raw_end {Q : Option Value → Shared → Prop} (hh : A.handled = none) (it0 : s.heap.IsKeyIter it d i es.size ep) (g : s.heap.get? d = some od) (dt : od.data = .dict es ep) (hi : es.size ≤ i)
   (q : ∀ h', Heap.ExtBut it s.heap h' → Q none { s with heap := h' }) : wpAny (model prog w) A (pyNext (.ref it)) Q E s := by
 obtain ⟨o, ho, hc, hd⟩ := id it0
 unfold pyNext; refine wpAny_bind (wpAny_attempt (wpAny_callSpecial?_slot (name := Str.ofString "__next__") it0.typeIs PySem.F.slot_dict_keyiterator_next (wpAny_call_entry PySem.F.slot_dict_keyiterator_next it0.typeIs PySem.F.entry_dict_keyiterator_next ?_ (PySem.F.args_dict_keyiterator_next_1 _))))
 refine wpAny_bind (wpAny_pure (wpAny_bind (wpAny_bind ?_)))
 first | refine wpAny_bind (wpAny_typeNameOfWhole_keyiter it0.typeIs (wpAny_pure ?_)) | refine wpAny_bind (wpAny_typeNameOf_keyiter it0.typeIs (wpAny_pure ?_))
 refine wpAny_bind (wpAny_fieldsOf ho hd ?_); simp only [(show Builtin.Dict_items.ownsTuple "dict_keyiterator" = false by decide), Bool.false_eq_true, if_false]
 show wpAny _ _ (if (Value.ref d == Value.none) = true then _ else _) _ _ _; rw [if_neg (fun z : (Value.ref d == Value.none) = true => nomatch z)]
 refine wpAny_bind (wpAny_pure (wpAny_bind (wpAny_dictEntries g dt ?_)))
 rw [if_neg (by simp)]; refine wpAny_bind (wpAny_pure (wpAny_bind (wpAny_dictEpoch g dt ?_)))
 rw [if_neg (by simp)]; refine wpAny_pure ?_
 simp only [show ¬ ((i : Int) < 0) by omega, if_false, Int.toNat_natCast, Array.getElem?_eq_none hi]
 refine wpAny_bind ?_
 first | refine wpAny_bind (wpAny_typeNameOfWhole_keyiter it0.typeIs (wpAny_pure ?_)) | refine wpAny_bind (wpAny_typeNameOf_keyiter it0.typeIs (wpAny_pure ?_))
 show wpAny _ _ (setField (.ref it) 0 .none >>= _) _ _ _; refine wpAny_bind (wpAny_setField ho hd (by simp) ?_)
 show wpAny _ _ (newExc (.type "StopIteration") [] >>= _) _ _ _; refine wpAny_bind ?_
 simp only [newExc, newTuple]; refine wpAny_bind (wpAny_newObj_type ?_ (by size_fits))
 refine wpAny_bind (m := firstArgMember _ _) (wpAny_of_eq (a := Value.none) (by first | rfl | (simp only [firstArgMember]; rfl)) (wpAny_newObj_type ?_ (by size_fits)))
 simp only [raiseNew]; refine wpAny_bind (wpAny_handled ?_)
 rw [show A.in1.handled = none from hh]; refine wpAny_bind (wpAny_pure (wpAny_throw ?_))
 refine wpAny_bind (wpAny_isInstance (T := "StopIteration") (b := true) ⟨_, Heap.get?_push_size _ rfl, rfl⟩ isSubtype_stop (wpAny_pure ?_))
 exact q _ (((Heap.SameBut.update ..).extBut.push _).push _)
end
theorem paired_at {α β : Type} {F : α → β → Prop} : ∀ {xs : List α} {ys : List β}, Paired F xs ys → ∀ (i : Nat) x, xs[i]? = some x → ∃ y, ys[i]? = some y ∧ F x y
 | _, _, .nil, i, x, h => by simp at h
 | _, _, .cons a r, 0, x, h => by cases h; exact ⟨_, rfl, a⟩
 | _, _, .cons a r, i + 1, x, h => paired_at r i x h
section
variable {P : Program} {w : World} {K : Type} [DecidableEq K]
def dX (Z : VKd P w K) (hl : Z.lev + 1 ≤ 8) (a : Addr) (kvs : List (N3 K)) (o : Obj) : HO := .ext fun h => NDict Z hl a kvs h ∧ h.get? a = some o
def Itn (Z : VKd P w K) (hl : Z.lev + 1 ≤ 8) (a : Addr) (kvs : List (N3 K)) (o : Obj) : It :=
 ⟨fun i H => H a = some (dX Z hl a kvs o) ∧ ∃ e, kvs[i]? = some e, fun i H x H' => H' = H ∧ ∃ e, kvs[i]? = some e ∧ x = .ref e.2.1, fun i H => H a = some (dX Z hl a kvs o) ∧ kvs.length ≤ i⟩
variable {Z : VKd P w K} {hl : Z.lev + 1 ≤ 8}
theorem dX_of {X : Cx} {K : Type} [DecidableEq K] {Z : VKd X.prog X.w K} {hl : Z.lev + 1 ≤ 8} {pins : List (Addr × Obj)} {σ : St} {H : Hp} {s : Shared} {a : Addr} {kvs : List (N3 K)} {o : Obj} (I : Inv X pins σ H s) (d : H a = some (dX Z hl a kvs o)) : NDict Z hl a kvs s.heap ∧ s.heap.get? a = some o :=
 (show ObjOk X.prog X.w H s.heap a (dX Z hl a kvs o) from I.hok a _ d).1
theorem nd_entries {h : Heap} {a : Addr} {kvs : List (N3 K)} {o : Obj} {es : Array DictEntry} {ep : Nat} (q : NDict Z hl a kvs h) (g : h.get? a = some o) (dt : o.data = .dict es ep) : es.size = kvs.length ∧ ∀ (i : Nat) (hi : i < es.size) (e : N3 K), kvs[i]? = some e → es[i].key = .ref e.2.1 := by
 obtain ⟨_, _, xs, r, o', es', ep', g', _, dt', he, _⟩ := q
 rw [g] at g'; cases g'
 rw [dt] at dt'; cases dt'
 have e1 : es.size = xs.length := size_of_entries he
 refine ⟨by rw [e1]; exact (Paired.length r).symm, fun i hi e h1 => ?_⟩
 obtain ⟨x, hx, q⟩ := paired_at r i e h1
 have e2 := entry_at he i
 rw [hx, Array.getElem?_eq_getElem hi] at e2
 have e3 : es[i] = entryOfKey (nestK Z hl) x := Option.some.inj e2
 rw [e3, q.2.1]
 rfl
theorem turn_nd {Fr : PySem.W.Frag} {tg : Expr} (a it : Addr) (kvs : List (N3 K)) (o : Obj) (es : Array DictEntry) (ep : Nat) (dt : o.data = .dict es ep) : Turn P w Fr tg (Itn Z hl a kvs o) [it] it (fun i h => h.IsKeyIter it a i es.size ep) where
 mem := by simp
 obj := fun i h st b hb => by
   obtain rfl : b = it := by simpa using hb
   obtain ⟨x, e, c, d⟩ := st
   exact ⟨x, e, fun v z => by rw [d] at z; cases z⟩
 keep := fun i h h' st k => by
   obtain ⟨x, e, c, d⟩ := st
   exact ⟨x, k it (by simp) x e, c, d⟩
 item := by
   intro X hP hw hK hc i pins s σ H E I hf st hg
   subst hP hw
   obtain ⟨hd, e, he⟩ := hg
   obtain ⟨nd, g⟩ := dX_of I hd
   obtain ⟨hsz, hkey⟩ := nd_entries nd g dt
   obtain ⟨f0, f1, f2, f3, f4, f5⟩ := hf it (by simp)
   have hi : i < es.size := by rw [hsz]; exact (List.getElem?_eq_some_iff.mp he).1
   refine raw_next st g dt hi fun h' st' sb => ?_
   have I1 : Inv X pins σ H { s with heap := h' } := I.turned (t' := s.toks) (fun b o hb e => (sb.2 b hb).trans e) f0 f1 f3 f4 f5
   obtain ⟨x, ex, cx, dx⟩ := id st'
   refine ⟨_, rfl, go_of (s := { s with heap := h' }) ex cx dx (by decide) ⟨.ref e.2.1, H, I1, ?_, ⟨rfl, e, he, rfl⟩, st', fun b hb => (hf b hb).1⟩⟩
   exact hkey i hi e he
 done := by
   intro X hP hw hK hc i pins s σ H E I hf st hg
   subst hP hw
   obtain ⟨hd, he⟩ := hg
   obtain ⟨nd, g⟩ := dX_of I hd
   obtain ⟨hsz, hkey⟩ := nd_entries nd g dt
   obtain ⟨f0, f1, f2, f3, f4, f5⟩ := hf it (by simp)
   exact raw_end (I.ok.hd hc) st g dt (by omega) fun h' eb => ⟨rfl, I.turned (t' := s.toks) (fun b o hb e => eb b o hb e) f0 f1 f3 f4 f5⟩
 self := fun _ _ _ _ _ st h => wpAny_pyIter_keyiter st h
end

section
variable {X : Cx} {K : Type} [DecidableEq K] {F : PySem.W.Frag} {Z : VKd X.prog X.w K}
def iNest {P : Program} {w : World} {K : Type} [DecidableEq K] {F : PySem.W.Frag} {Z : VKd P w K} (Y : AKd F Z) (hl : Z.lev + 1 ≤ 8) (td : TE) : TI := fun σ H R => td σ H fun x H1 => ∃ a kvs, x = .ref a ∧ Nd Y hl H1 a kvs ∧ ∀ o, R (Itn Z hl a kvs o) (upd H1 a (dX Z hl a kvs o))
theorem pi_nest {tg l : Expr} {td : TE} (Y : AKd F Z) (hl : Z.lev + 1 ≤ 8) (hF : X.K = F) (hp : PE X l td) : PI X tg l (iNest Y hl td) := by
 intro pins s σ H R I h
 refine thn (hp pins s σ H _ I h) fun v s1 ⟨x, H1, I1, r1, a, kvs, e, d, q⟩ => ?_
 subst e
 cases r1
 have nd : NDict Z hl a kvs s1.heap := (show ObjOk X.prog X.w H1 s1.heap a (dN Z hl a kvs) from I1.hok a _ d.ob).1
 obtain ⟨z, y, xs, r, o, es, ep, g, c, dt, rest⟩ := id nd
 refine raw_iter y g c dt ?_
 have ok : ObjOk X.prog X.w (upd H1 a (dX Z hl a kvs o)) s1.heap a (dX Z hl a kvs o) := by
   refine ⟨⟨nd, g⟩, ⟨o, g⟩, fun g1 g2 q k => ?_⟩
   obtain ⟨⟨z, y, xs, r, o', es, ep, h1, h2, h3, h4, h5⟩, h6⟩ := q
   exact ⟨⟨z, y, xs, r, o', es, ep, k _ h1, h2, h3, h4, h5⟩, k _ h6⟩
 have I2 : Inv X pins σ (upd H1 a (dX Z hl a kvs o)) { s1 with heap := s1.heap, toks := s1.toks } := I1.write (x := a) (e := a) (by rw [d.ob]; exact True.intro) (.inl rfl) (fun b u _ e => e) ⟨o, g⟩ ok
 refine ⟨s1.heap.objs.size, [s1.heap.objs.size], _, _, _, rfl, I2.kept (t' := s1.toks) fun b o e => Heap.get?_push_of_some _ e, turn_nd a _ kvs o es ep dt, ⟨_, Heap.get?_push_size _ rfl, rfl, rfl⟩, fun b hb => ?_, q o⟩
 obtain rfl : b = s1.heap.objs.size := by simpa using hb
 exact I2.fpOk (Nat.le_refl _) (I2.hok.fresh (Nat.le_refl _))
end
theorem piP_nest {X : Cx} {P : Program} {w : World} {K : Type} [DecidableEq K] {F : PySem.W.Frag} {Z : VKd P w K} {tg l : Expr} {td : TE} (Y : AKd F Z) (hl : Z.lev + 1 ≤ 8) (hP : X.prog = P) (hw : X.w = w) (hF : X.K = F) (hp : PE X l td) : PI X tg l (iNest Y hl td) := by
 subst hP hw; exact pi_nest Y hl hF hp
theorem comp_nest {P : Program} {w : World} {K : Type} [DecidableEq K] {Z : VKd P w K} {hl : Z.lev + 1 ≤ 8} {a : Addr} {kvs : List (N3 K)} {o : Obj} {g : TG} {tt : TT} {te : TE} {Q : VK} {D : Addr} {τ : St} {H : Hp} (Pv : Nat → List V → St → Hp → Prop) (h0 : Pv 0 [] τ (upd H D (.lst [])))
   (hl' : ∀ i ys τ H, i ≤ kvs.length → Pv i ys τ H → H a = some (dX Z hl a kvs o) ∧ H D = some (.lst ys))
   (hs : ∀ i e ys τ H, kvs[i]? = some e → Pv i ys τ H → g (.ref e.2.1) τ H fun τ2 H2 => tt τ2 H2 fun b H3 => if b = true then te τ2 H3 fun y H4 => H4 D = some (.lst ys) ∧ ys.length < sizeLine ∧ Pv (i + 1) (ys ++ [y]) τ2 (upd H4 D (.lst (ys ++ [y]))) else Pv (i + 1) ys τ2 H3)
   (hd : ∀ ys τ H, Pv kvs.length ys τ H → Q (.ref D) H) : CompR (Itn Z hl a kvs o) g tt te Q D τ H := by
 refine ⟨fun i m ys τ H => m = kvs.length - i ∧ i ≤ kvs.length ∧ Pv i ys τ H, ⟨kvs.length, by simp, Nat.zero_le _, h0⟩, ?_⟩
 rintro i m ys τ H ⟨rfl, hi, p⟩
 obtain ⟨q, hD⟩ := hl' i ys τ H hi p
 refine ⟨hD, ?_⟩
 by_cases hlt : i < kvs.length
 · refine .inr ⟨⟨q, kvs[i], List.getElem?_eq_getElem hlt⟩, Pv (i + 1), fun zs σ' H' p' => ⟨kvs.length - (i + 1), by omega, rfl, hlt, p'⟩, fun x H' y => ?_⟩
   obtain ⟨e, e1, h1, h2⟩ := y
   subst e h2
   exact hs i e1 ys τ _ h1 p
 · have e : i = kvs.length := by omega
   subst e
   exact .inl ⟨⟨q, Nat.le_refl _⟩, hd ys τ H p⟩
def rMax (K : PySem.W.Frag) : List V → Hp → VK → Prop := fun xs H Q => ∃ (p : Addr) (ns : List Nat), xs = [.ref p] ∧ SqL K H p (ns.map fun n : Nat => V.int n) ∧ ns ≠ [] ∧ ∀ n : Nat, n ∈ ns → (∀ m ∈ ns, m ≤ n) → Q (.int n) H
theorem call_maxN {X : Cx} (hc : X.calm = true) : CallR X (.builtin "max") (rMax X.K) := by
 intro pins s σ H xs us Q I r h
 obtain ⟨p, ns, rfl, hq, hne, q⟩ := h
 obtain ⟨u, rfl, ru⟩ := vals1 r
 cases ru
 obtain ⟨its, rv, pl, hz⟩ := I.list hq
 have hlen := rv.length
 rw [List.length_map] at hlen
 have hpl : p < s.heap.objs.size := by obtain ⟨o, ho, _⟩ := pl.isList; exact Heap.lt_size ho
 have hpos := List.length_pos_iff.mpr hne
 refine call_max_walk (wpAny_pyIter_list pl.isList ⟨s.heap.objs.size, _, _, _, _, _, fun i j => decide (((ns.getD i 0 : Nat) : Int) > ((ns.getD j 0 : Nat) : Int)), rfl, Walks.list (A := X.A.in1) (show X.A.in1.handled = none from I.ok.hd hc) s.heap.objs.size p (Nat.ne_of_lt hpl) its.toArray, ⟨⟨_, Heap.get?_push_size _ rfl, rfl, rfl⟩, pl.isList.at fun o e => Heap.get?_push_of_some _ e⟩, ?_, ?_, ?_, ?_⟩)
 · intro b hb
   have e : b = s.heap.objs.size ∨ b = p := by simpa using hb
   show b < (s.heap.push _).objs.size
   rw [Heap.size_push]
   rcases e with rfl | rfl
   · exact Nat.lt_succ_self _
   · exact Nat.lt_succ_of_lt hpl
 · simp; omega
 · exact CmpOf.ints_gt (fun i => ((ns.getD i 0 : Nat) : Int)) fun i v hv => vals_int_get rv (by simpa using hv)
 · intro v h' tk hv hk
   have f0 := I.fpOk (Nat.le_refl s.heap.objs.size) (I.hok.fresh (Nat.le_refl _))
   have I2 : Inv X pins σ H { s with heap := s.heap.push { cls := .type "list_iterator", data := .fields #[.ref p, rawInt 0] } } := I.kept (t' := s.toks) fun b o e => Heap.get?_push_of_some _ e
   have I3 := I2.turned (h' := h') (t' := tk) (it := s.heap.objs.size) (fun b o hb e => hk b o (by simpa using hb) e) f0.1 f0.2.1 f0.2.2.2.1 f0.2.2.2.2.1 f0.2.2.2.2.2
   obtain ⟨h1, h2⟩ := argBest_gt (fun i => ((ns.getD i 0 : Nat) : Int)) (its.toArray.size - 1)
   rw [List.size_toArray] at h1 h2
   rw [List.size_toArray] at hv
   generalize argBest (fun i j => decide (((ns.getD i 0 : Nat) : Int) > ((ns.getD j 0 : Nat) : Int))) (its.length - 1) = b at h1 h2 hv
   obtain ⟨t, rfl⟩ := vals_int_get rv (i := b) (by rw [← hv]; simp)
   have hb : b < ns.length := by omega
   refine ⟨.int (ns.getD b 0 : Nat), H, I3, ⟨t, rfl⟩, q _ ?_ fun m hm => ?_⟩
   · rw [List.getD_eq_getElem?_getD, List.getElem?_eq_getElem hb]; exact List.getElem_mem hb
   · obtain ⟨j, hj, rfl⟩ := List.getElem_of_mem hm
     have := h2 j (by omega)
     have e : ns.getD j 0 = ns[j] := by rw [List.getD_eq_getElem?_getD, List.getElem?_eq_getElem hj]; rfl
     rw [e] at this
     omega
theorem callK_max {X : Cx} (K : PySem.W.Frag) (h : X.K = K) (hc : X.calm = true) : CallR X (.builtin "max") (rMax K) := by subst h; exact call_maxN hc
end L2

set_option Elab.async false
set_option linter.all false
set_option maxRecDepth 100000
set_option maxHeartbeats 4000000
namespace L2
open PySem PySem.Spec PyProof.Rows
section
variable {X : Cx}
end
end L2

set_option Elab.async false
set_option linter.all false
set_option maxRecDepth 100000
set_option maxHeartbeats 4000000
namespace L2
open PySem PySem.Spec PyProof.Rows
section
variable {X : Cx}
end
end L2

set_option Elab.async false
set_option linter.all false
namespace L2
open PySem
theorem rdT {A B : Prop} {b : Bool} (hb : b = true) (h : A) : if b = true then A else B := by rw [if_pos hb]; exact h
theorem rdF {A B : Prop} {b : Bool} (hb : b = false) (h : B) : if b = true then A else B := by rw [if_neg (by rw [hb]; decide)]; exact h
theorem rdD {p A B : Prop} [Decidable p] (hp : p) (h : A) : if decide p = true then A else B := rdT (decide_eq_true hp) h
theorem rdDn {p A B : Prop} [Decidable p] (hp : ¬ p) (h : B) : if decide p = true then A else B := rdF (decide_eq_false hp) h
theorem rdN {p A B : Prop} [Decidable p] (hp : p) (h : B) : if (!decide p) = true then A else B := rdF (by rw [decide_eq_true hp]; rfl) h
theorem rdNn {p A B : Prop} [Decidable p] (hp : ¬ p) (h : A) : if (!decide p) = true then A else B := rdT (by rw [decide_eq_false hp]; rfl) h
theorem rdI {A B : Prop} {a b : Int} (hp : a = b) (h : A) : if decide (V.int a = V.int b) = true then A else B := rdD (by rw [hp]) h
theorem rdIn {A B : Prop} {a b : Int} (hp : ¬ a = b) (h : B) : if decide (V.int a = V.int b) = true then A else B := rdDn (fun e => hp (V.int.inj e)) h
theorem rd2 {p A B : Prop} [Decidable p] (h1 : p → A) (h2 : ¬ p → B) : if decide p = true then A else B := by
 by_cases h : p
 · exact rdD h (h1 h)
 · exact rdDn h (h2 h)
theorem rd2i {A B : Prop} {a b : Int} (h1 : a = b → A) (h2 : ¬ a = b → B) : if decide (V.int a = V.int b) = true then A else B := by
 by_cases h : a = b
 · exact rdI h (h1 h)
 · exact rdIn h (h2 h)
end L2

set_option Elab.async false
set_option linter.all false
set_option maxRecDepth 100000
set_option maxHeartbeats 4000000
namespace L2
open PySem PySem.Spec PyProof.Rows
section
variable {prog : Program} {w : World} {A : Around} {E : Value → Shared → Prop} {s : Shared}
end
section
variable {X : Cx} {e : Expr} {te : TE}
end
end L2

set_option Elab.async false
set_option linter.all false
set_option maxRecDepth 100000
set_option maxHeartbeats 4000000
namespace L2
open PySem PySem.Spec PyProof.Rows
section
variable {prog : Program} {w : World} {A : Around} {E : Value → Shared → Prop} {s : Shared}
end
end L2

set_option Elab.async false
set_option linter.all false
set_option maxRecDepth 100000
set_option maxHeartbeats 4000000
namespace L2
open PySem PySem.Spec PyProof.Rows
end L2

set_option Elab.async false
set_option linter.all false
set_option maxRecDepth 100000
set_option maxHeartbeats 4000000
namespace L2
open PySem PySem.Spec PyProof.Rows
def FlAt (h₀ : Heap) (H : Hp) (h : Heap) (e : Addr) (vs : Array Value) : Option Value → Prop
 | none => vs[1]? = some .none ∧ vs[2]? = some .none
 | some v => ∃ T oT ts, vs[1]? = some (.ref T) ∧ H T = none ∧ h₀.get? T = none ∧ T ≠ e ∧ h.get? T = some oT ∧ oT.data = .fields ts ∧ ts[3]? = some v ∧ vs[2]? = some .none
theorem FlAt.cx {h₀ : Heap} {H : Hp} {h : Heap} {e : Addr} {vs : Array Value} {fl : Option Value} (x : FlAt h₀ H h e vs fl) : vs[2]? = some .none := by
 cases fl with
 | none => exact x.2
 | some v => obtain ⟨_, _, _, _, _, _, _, _, _, _, z⟩ := x; exact z
structure Exc (h₀ : Heap) (H : Hp) (h : Heap) (e : Addr) (C : Value) (od : Option Addr) (fl : Option Value) : Prop where
 fr : H e = none
 nw : h₀.get? e = none
 tr : ∃ oe vs, h.get? e = some oe ∧ oe.cls = C ∧ oe.dict = od ∧ oe.data = .fields vs ∧ FlAt h₀ H h e vs fl
structure Mv (fs ch : List Addr) (h h' : Heap) : Prop where
 keep : ∀ b o, b ∉ ch → b ∉ fs → h.get? b = some o → h'.get? b = some o
 slot : ∀ b o, b ∉ ch → h.get? b = some o → ∃ sl, h'.get? b = some { o with slots := sl }
 there : ∀ b o, h.get? b = some o → ∃ o', h'.get? b = some o'
theorem Mv.trans {fs ch : List Addr} {h h1 h2 : Heap} (a : Mv fs ch h h1) (b : Mv fs ch h1 h2) : Mv fs ch h h2 :=
 ⟨fun c o n1 n2 q => b.keep c o n1 n2 (a.keep c o n1 n2 q), fun c o n q => let ⟨sl, q1⟩ := a.slot c o n q; let ⟨sl2, q2⟩ := b.slot c _ n q1; ⟨sl2, q2⟩, fun c o q => let ⟨o1, q1⟩ := a.there c o q; b.there c o1 q1⟩
theorem Mv.mono {fs fs' ch ch' : List Addr} {h h' : Heap} (a : Mv fs ch h h') (hf : ∀ b ∈ fs, b ∈ fs') (hc : ∀ b ∈ ch, b ∈ ch') : Mv fs' ch' h h' :=
 ⟨fun c o n1 n2 q => a.keep c o (fun z => n1 (hc c z)) (fun z => n2 (hf c z)) q, fun c o n q => a.slot c o (fun z => n (hc c z)) q, a.there⟩
theorem Mv.refl {fs ch : List Addr} {h : Heap} : Mv fs ch h h := ⟨fun _ _ _ _ q => q, fun _ o _ q => ⟨o.slots, q⟩, fun _ o q => ⟨o, q⟩⟩
theorem Mv.of_slots {fs ch : List Addr} {h h' : Heap} (x : Heap.SlotsOnly fs h h') : Mv fs ch h h' :=
 ⟨fun b o _ n q => (x.2.1 b n).trans q, fun b o _ q => x.2.2 b o q, fun b o q => let ⟨sl, e⟩ := x.2.2 b o q; ⟨_, e⟩⟩
theorem Mv.push {fs ch : List Addr} {h : Heap} (o : Obj) : Mv fs ch h (h.push o) :=
 ⟨fun b u _ _ q => Heap.get?_push_of_some _ q, fun b u _ q => ⟨u.slots, Heap.get?_push_of_some _ q⟩, fun b u q => ⟨u, Heap.get?_push_of_some _ q⟩⟩
theorem Mv.upd {fs ch : List Addr} {h : Heap} {a : Addr} {f : Obj → Obj} {o : Obj} (ha : a ∈ ch) (q : h.get? a = some o) (hf : (f o).isFreed = false) : Mv fs ch h (h.update a f) := by
 have ne : ∀ b, b ∉ ch → a ≠ b := fun b n z => n (z ▸ ha)
 refine ⟨fun b u n _ e => (Heap.get?_update_other _ _ (ne b n)).trans e, fun b u n e => ⟨u.slots, (Heap.get?_update_other _ _ (ne b n)).trans e⟩, fun b u e => ?_⟩
 by_cases hb : a = b
 · subst hb; exact ⟨_, Heap.get?_update_self _ q hf⟩
 · exact ⟨u, (Heap.get?_update_other _ _ hb).trans e⟩
theorem Mv.frames {fs ch : List Addr} {h h' base : Heap} (x : Mv fs ch h h') {l : List Env} (hl : h.FunFrames base l) (hc : ∀ b ∈ ch, ∀ o, h.get? b = some o → ∃ vs, o.data = .fields vs) : h'.FunFrames base l :=
 hl.of_keeps fun b o q nf => by
   have n : b ∉ ch := fun z => let ⟨vs, e⟩ := hc b z o q; nf vs e
   obtain ⟨sl, e⟩ := x.slot b o n q
   exact ⟨_, e, rfl⟩

section
variable {M : Model} {A : Around} {E : Value → Shared → Prop} {s : Shared} {base : Heap} {env : Env} {outer : List Env} {L e : Addr} {Q : Unit → Shared → Prop}
theorem entry_new {oe : Obj} {vs : Array Value} {head : Value} {hn : Bool} (hfr : A.frames = some (env :: outer)) (hl : s.heap.FunFrames base (env :: outer)) (hf : env.frame = some L)
   (he : s.heap.get? e = some oe) (hd : oe.data = .fields vs) (hsz : 1 < vs.size)
   (k : ∀ h' T oT ts, Mv (frs (env :: outer)) [e] s.heap h' → s.heap.objs.size ≤ T → T ≠ e → h'.get? e = some (oe.mapFields (·.setIfInBounds 1 (.ref T))) → h'.get? T = some oT → oT.data = .fields ts → ts[3]? = some (rawInt L) → Q () { s with heap := h' }) :
   wpAny M A (do let a ← frameOf env; let pl ← entryPlaceOf L hn; let b ← EntryCells.newEntry head a .none (rawInt L) .none pl; setField (.ref e) 1 b) Q E s := by
 have hnf : e ∉ (env :: outer).filterMap (·.frame) := fun z => by
   obtain ⟨_, o, ho, nf⟩ := hl.mem z
   rw [he] at ho
   cases ho
   exact nf vs hd
 refine wpAny_bind (wpAny_frameOf_fun hfr hl hf fun h1 s1 => wpAny_bind (wpAny_entryPlaceOf fun pl hpl => ?_))
 unfold EntryCells.newEntry newFields
 refine wpAny_bind (wpAny_newObj_type ?_ (hpl.sizeOk5 _ _ _ _ _))
 have e1 : h1.get? e = some oe := (s1.2.1 e hnf).trans he
 have e2 := fun o => Heap.get?_push_of_some (h := h1) o e1
 refine wpAny_setField (e2 _) hd hsz ?_
 have hne : h1.objs.size ≠ e := Nat.ne_of_gt (Heap.lt_size e1)
 have fd := Obj.data_mapFields hd (·.setIfInBounds 1 (Value.ref h1.objs.size))
 have m1 : Mv (frs (env :: outer)) [e] s.heap h1 := Mv.of_slots s1
 refine k _ h1.objs.size _ _ ((m1.trans (Mv.push _)).trans (Mv.upd (List.mem_singleton.mpr rfl) (e2 _) (Obj.isFreed_of_fields fd))) ?_ hne (Heap.get?_update_self _ (e2 _) (Obj.isFreed_of_fields fd)) ((Heap.get?_update_other _ _ (Ne.symm hne)).trans (Heap.get?_push_size h1 rfl)) rfl ?_
 · rw [s1.1]; exact Nat.le_refl _
 · first | (simp; done) | (rcases hpl with rfl | ⟨_, _, _, _, _, _, _, rfl⟩ <;> simp)
end

section
variable {M : Model} {A : Around} {E : Value → Shared → Prop} {s : Shared} {base h₀ : Heap} {H : Hp} {env : Env} {outer : List Env} {L e : Addr} {C : Value} {od : Option Addr} {Q : Unit → Shared → Prop}
def ChOk (h₀ : Heap) (H : Hp) (ch : List Addr) : Prop := ∀ b ∈ ch, H b = none ∧ h₀.get? b = none
theorem mapF_cls (oe : Obj) (f : Array Value → Array Value) : (oe.mapFields f).cls = oe.cls := Obj.cls_mapFields _ _
theorem mapF_dict (oe : Obj) (f : Array Value → Array Value) : (oe.mapFields f).dict = oe.dict := by
 obtain ⟨c, d, dt, sl⟩ := oe
 cases dt <;> rfl
theorem note_exc {fl : Option Value} (hfr : A.frames = some (env :: outer)) (hl : s.heap.FunFrames base (env :: outer)) (hf : env.frame = some L)
   (x : Exc h₀ H s.heap e C od fl) (hfl : fl = none ∨ fl = some .none ∨ fl = some (rawInt L))
   (ht : ∀ b o, h₀.get? b = some o → ∃ o', s.heap.get? b = some o') (hH : ∀ b, s.heap.objs.size ≤ b → H b = none)
   (k : ∀ h' ch, ChOk h₀ H ch → Mv (frs (env :: outer)) ch s.heap h' → Exc h₀ H h' e C od (some (rawInt L)) → Q () { s with heap := h' }) :
   wpAny M A (noteFrame (.ref e) env) Q E s := by
 obtain ⟨fr, nw, oe, vs, he, hc, hdi, hd, fa⟩ := x
 have new0 : ∀ T, s.heap.get? T = none → h₀.get? T = none := fun T hT => by
   cases q : h₀.get? T with
   | none => rfl
   | some o => obtain ⟨o', z⟩ := ht T o q; rw [hT] at z; cases z
 unfold noteFrame
 simp only [hf]
 rcases hfl with rfl | rfl | rfl
 · obtain ⟨h1, hx2⟩ := fa
   refine wpAny_bind (wpAny_field he hd h1 ?_)
   rw [if_neg (by decide)]
   have hsz := (Array.getElem?_eq_some_iff.mp h1).1
   refine entry_new hfr hl hf he hd hsz fun h' T oT ts m zT hne e1 eT dT t3 => ?_
   have nT : s.heap.get? T = none := Heap.get?_none_of_le zT
   have hT : H T = none := hH T zT
   refine k h' [e] (fun b hb => ?_) m ⟨fr, nw, _, _, e1, (mapF_cls _ _).trans hc, (mapF_dict _ _).trans hdi, Obj.data_mapFields hd _, T, oT, ts, by simp [hsz], hT, new0 T nT, hne, eT, dT, t3, by rw [Array.getElem?_setIfInBounds_ne (by decide)]; exact hx2⟩
   rw [List.mem_singleton.mp hb]
   exact ⟨fr, nw⟩
 · obtain ⟨T0, o0, t0, h1, n0, w0, ne0, q0, d0, z3, hx2⟩ := fa
   refine wpAny_bind (wpAny_field he hd h1 ?_)
   rw [if_pos (show (Value.ref T0 != Value.none) = true from by simp)]
   refine wpAny_bind (wpAny_field q0 d0 z3 ?_)
   rw [if_neg (show ¬ ((Value.none == rawInt L) = true) from by simp [rawInt])]
   have z3s := (Array.getElem?_eq_some_iff.mp z3).1
   refine wpAny_bind (wpAny_setField q0 d0 z3s ?_)
   have hsz := (Array.getElem?_eq_some_iff.mp h1).1
   have m0 : Mv (frs (env :: outer)) [e, T0] s.heap (s.heap.update T0 (Obj.mapFields (·.setIfInBounds 3 Value.none))) :=
     Mv.upd (List.mem_cons_of_mem _ (List.mem_singleton.mpr rfl)) q0 (Obj.isFreed_of_fields (Obj.data_mapFields d0 _))
   have he1 : (s.heap.update T0 (Obj.mapFields (·.setIfInBounds 3 Value.none))).get? e = some oe := (Heap.get?_update_other _ _ ne0).trans he
   have hl1 : (s.heap.update T0 (Obj.mapFields (·.setIfInBounds 3 Value.none))).FunFrames base (env :: outer) := m0.frames hl fun b hb o q => by
     rcases List.mem_cons.mp hb with rfl | hb
     · rw [he] at q; cases q; exact ⟨vs, hd⟩
     · rw [List.mem_singleton.mp hb, q0] at q; cases q; exact ⟨t0, d0⟩
   have zs : (s.heap.update T0 (Obj.mapFields (·.setIfInBounds 3 Value.none))).objs.size = s.heap.objs.size := Heap.size_after_update ..
   refine entry_new (s := { s with heap := s.heap.update T0 (Obj.mapFields (·.setIfInBounds 3 Value.none)) }) hfr hl1 hf he1 hd hsz fun h' T oT ts m zT hne e1 eT dT t3 => ?_
   have zT : s.heap.objs.size ≤ T := by rw [← zs]; exact zT
   have nT : s.heap.get? T = none := Heap.get?_none_of_le zT
   refine k h' [e, T0] (fun b hb => ?_) (m0.trans (m.mono (fun _ z => z) fun b z => by rw [List.mem_singleton.mp z]; exact List.mem_cons_self)) ⟨fr, nw, _, _, e1, (mapF_cls _ _).trans hc, (mapF_dict _ _).trans hdi, Obj.data_mapFields hd _, T, oT, ts, by simp [hsz], hH T zT, new0 T nT, hne, eT, dT, t3, by rw [Array.getElem?_setIfInBounds_ne (by decide)]; exact hx2⟩
   rcases List.mem_cons.mp hb with rfl | hb
   · exact ⟨fr, nw⟩
   · rw [List.mem_singleton.mp hb]; exact ⟨n0, w0⟩
 · obtain ⟨T0, o0, t0, h1, n0, w0, ne0, q0, d0, z3, hx2⟩ := fa
   refine wpAny_bind (wpAny_field he hd h1 ?_)
   rw [if_pos (show (Value.ref T0 != Value.none) = true from by simp)]
   refine wpAny_bind (wpAny_field q0 d0 z3 ?_)
   rw [if_pos (show (rawInt L == rawInt L) = true from by simp)]
   refine wpAny_pure ?_
   exact k s.heap [] (fun b hb => nomatch hb) Mv.refl ⟨fr, nw, oe, vs, he, hc, hdi, hd, T0, o0, t0, h1, n0, w0, ne0, q0, d0, z3, hx2⟩

theorem land_exc {v : Value} (x : Exc h₀ H s.heap e C od (some v)) (k : ∀ h' ch, ChOk h₀ H ch → Mv [] ch s.heap h' → Exc h₀ H h' e C od (some .none) → Q () { s with heap := h' }) :
   wpAny M A (setFlight (.ref e) none) Q E s := by
 obtain ⟨fr, nw, oe, vs, he, hc, hdi, hd, T, oT, ts, h1, n0, w0, ne0, q0, d0, z3, hx2⟩ := x
 have hsz := (Array.getElem?_eq_some_iff.mp z3).1
 refine wpAny_setFlight_none he hd h1 q0 d0 hsz (k _ [T] (fun b hb => ?_) (Mv.upd (List.mem_singleton.mpr rfl) q0 (Obj.isFreed_of_fields (Obj.data_mapFields d0 _))) ⟨fr, nw, oe, vs, (Heap.get?_update_other _ _ ne0).trans he, hc, hdi, hd, T, _, _, h1, n0, w0, ne0, Heap.get?_update_self _ q0 (Obj.isFreed_of_fields (Obj.data_mapFields d0 _)), Obj.data_mapFields d0 _, by simp [hsz], hx2⟩)
 rw [List.mem_singleton.mp hb]
 exact ⟨n0, w0⟩
theorem leave_exc {fl : Option Value} (hfr : A.frames = some (env :: outer)) (hl : s.heap.FunFrames base (env :: outer)) (hf : env.frame = some L)
   (x : Exc h₀ H s.heap e C od fl) (hfl : fl = none ∨ fl = some .none ∨ fl = some (rawInt L))
   (ht : ∀ b o, h₀.get? b = some o → ∃ o', s.heap.get? b = some o') (hH : ∀ b, s.heap.objs.size ≤ b → H b = none)
   (k : ∀ h' ch, ChOk h₀ H ch → Mv (frs (env :: outer)) ch s.heap h' → Exc h₀ H h' e C od (some .none) → Q () { s with heap := h' }) :
   wpAny M A (leaving env (.ref e)) Q E s := by
 unfold leaving
 refine wpAny_bind (note_exc hfr hl hf x hfl ht hH fun h1 c1 k1 m1 x1 => ?_)
 refine land_exc x1 fun h2 c2 k2 m2 x2 => ?_
 refine k h2 (c1 ++ c2) (fun b hb => (List.mem_append.mp hb).elim (k1 b) (k2 b)) ((m1.mono (fun _ z => z) fun b z => List.mem_append_left _ z).trans (m2.mono (fun b z => nomatch z) fun b z => List.mem_append_right _ z)) x2
end

section
variable {X : Cx} {pins : List (Addr × Obj)} {σ σ' : St} {H H' : Hp} {s s1 : Shared}
theorem Inv.mv {h' : Heap} {ch : List Addr} (I : Inv X pins σ H s) (J : Inv X pins σ' H' s1) (m : Mv (frs X.stack) ch s1.heap h') (hc : ∀ b ∈ ch, H' b = none ∧ s.heap.get? b = none) : Inv X pins σ' H' { s1 with heap := h' } := by
 have nch : ∀ b o, s.heap.get? b = some o → b ∉ ch := fun b o e z => by rw [(hc b z).2] at e; cases e
 have n0 : ∀ b o, X.s₀.heap.get? b = some o → b ∉ X.ex → b ∉ ch := fun b o e hx => let ⟨o', e'⟩ := I.base.there b o e hx; nch b o' e'
 have neL : ∀ b o, X.s₀.heap.get? b = some o → b ≠ X.env.locals := fun b o e => Nat.ne_of_lt (Nat.lt_of_lt_of_le (Heap.lt_size e) I.ok.above)
 have nst : ∀ b, b ≠ X.env.locals → b ∉ X.fs → b ∉ frs X.stack := fun b h1 h2 z => (List.mem_cons.mp (I.stkSub b z)).elim h1 h2
 have cellK : ∀ x c, X.env.cells.lookup x = some c → ∀ v, s1.heap.IsCell c v → Heap.IsCell h' c v := fun x c e v ⟨o, ho, hd⟩ => by
   obtain ⟨v0, o0, e0, _⟩ := I.cell x c e
   obtain ⟨sl, q⟩ := m.slot c o (nch c o0 e0) ho
   exact ⟨_, q, hd⟩
 have locO : ∃ o, s.heap.get? X.env.locals = some o := let ⟨m', ⟨o, _, _, ho, _⟩, _⟩ := I.loc; ⟨o, ho⟩
 obtain ⟨oL, eL⟩ := locO
 refine ⟨J.ok, J.os, J.bare, ⟨fun b o e n hb hx => m.keep b o (n0 b o e hx) (nst b (neL b o e) hb) (J.base.keep b o e n hb hx), fun b o e n hb hx => ?_, J.base.free, fun b o e hx => ?_, J.base.tups, J.base.frzs, J.base.tbls⟩, ?_, fun x c e => ?_, J.free, J.freeC, fun p hp => ?_, fun a o e => ?_, J.len⟩
 · obtain ⟨sl, e1⟩ := J.base.slot b o e n hb hx
   obtain ⟨sl2, e2⟩ := m.slot b _ (n0 b o e hx) e1
   exact ⟨sl2, e2⟩
 · obtain ⟨o', e1⟩ := J.base.there b o e hx
   exact m.there b o' e1
 · obtain ⟨mm, ⟨o, es, ep, ho, r⟩, hl⟩ := J.loc
   obtain ⟨sl, q⟩ := m.slot _ o (nch _ oL eL) ho
   refine ⟨mm, ⟨_, es, ep, q, r⟩, fun i x v e1 e2 e3 => ?_⟩
   obtain ⟨u, r1, l⟩ := hl i x v e1 e2 e3
   refine ⟨u, r1, ?_⟩
   rcases l with l | ⟨k, c, e, z⟩
   · exact .inl l
   · exact .inr ⟨k, c, e, cellK x c e _ z⟩
 · obtain ⟨v, z⟩ := J.cell x c e
   exact ⟨v, cellK x c e v z⟩
 · obtain ⟨e0, _, _, _, _⟩ := I.pin p hp
   obtain ⟨e, n, ne, nf, d⟩ := J.pin p hp
   exact ⟨m.keep p.1 p.2 (nch _ _ e0) (nst _ ne nf) e, n, ne, nf, d⟩
 · refine (J.hok a o e).stay (fun b u hb q => m.keep b u (fun z => ?_) (fun z => ?_) q) (fun _ q => q) fun _ _ q => q
   · have := (hc b z).1
     rcases hb with rfl | hb
     · rw [this] at e; cases e
     · rw [this] at hb; cases hb
   · have := J.stkFree b z
     rcases hb with rfl | hb
     · rw [this] at e; cases e
     · rw [this] at hb; cases hb
def CXe (P : Program) (w : World) : CXT := fun outer H s E e s' => ∃ ea C od H', e = .ref ea ∧ s'.os = s.os ∧ AllBare s'.gens ∧ Un (frs outer) [] H H' s.heap s'.heap ∧ HOk P w H' s'.heap ∧ Exc s.heap H' s'.heap ea C od (some .none) ∧ E C od H'

theorem Exc.older {h₀ h1 h : Heap} {H : Hp} {e : Addr} {C : Value} {od : Option Addr} {fl : Option Value} (x : Exc h1 H h e C od fl) (ht : ∀ b, h1.get? b = none → h₀.get? b = none) : Exc h₀ H h e C od fl := by
 obtain ⟨fr, nw, oe, vs, he, hc, hdi, hd, fa⟩ := x
 refine ⟨fr, ht _ nw, oe, vs, he, hc, hdi, hd, ?_⟩
 cases fl with
 | none => exact fa
 | some v => obtain ⟨T, oT, ts, h1, n0, w0, r⟩ := fa; exact ⟨T, oT, ts, h1, n0, ht _ w0, r⟩
theorem leaveX {E : XK} {E' : Value → Shared → Prop} {ea : Addr} {C : Value} {od : Option Addr} {fl : Option Value} (hst : X.stack = X.env :: X.outer) (hfm : X.env.frame = some X.env.locals) (hex : X.ex = [])
   (I : Inv X pins σ H s) (J : Inv X pins σ' H' s1) (ht : ∀ b o, s.heap.get? b = some o → ∃ o', s1.heap.get? b = some o') (x : Exc s.heap H' s1.heap ea C od fl) (hfl : fl = none ∨ fl = some .none ∨ fl = some (rawInt X.env.locals)) (hE : E C od H') :
   wpAny (model X.prog X.w) X.A (leaving X.env (.ref ea)) (fun _ s'' => CXe X.prog X.w X.outer X.H₀ X.s₀ E (.ref ea) s'') E' s1 := by
 have hl := J.stack
 rw [hst] at hl
 refine leave_exc (J.ok.frames.trans (by rw [hst])) hl hfm x hfl ht (fun b hb => J.hok.fresh hb) fun h' ch hc m x' => ?_
 have K := I.mv J (h' := h') (by rw [hst]; exact m) hc
 have old : ∀ b, s.heap.get? b = none → X.s₀.heap.get? b = none := fun b hb => by
   cases q : X.s₀.heap.get? b with
   | none => rfl
   | some o => obtain ⟨o', z⟩ := I.base.there b o q (by rw [hex]; simp); rw [hb] at z; cases z
 have U := K.base
 rw [hex] at U
 exact ⟨ea, C, od, H', rfl, J.os, J.bare, U, K.hok, x'.older old, hE⟩
end

section
variable {P : Program} {w : World} {K : PySem.W.Frag} {mg : Str → Option Value} {base : Heap} {N : List Str} {qual : Str} {scope : Scope} {f : Addr} {cd : Value} {A : Around} {outer : List Env} {s : Shared} {H : Hp} {E : XK}
theorem Fun.okE {x : Str} {st : Stmt} {fd : FuncData} {ps : List Str} {k : Nat} {sp : Sp} (F : Fun K x qual st f fd) (S : FnScope N ps (defScope st)) (len : ∀ vs H Q E, sp vs H Q E → vs.length = ps.length)
   (hbody : ∀ (cdv : Value) (A : Around) (outer : List Env) (s : Shared) (H : Hp) (vs : List V) (Q : VK) (E : XK), Room k (A.deeper (envOfC qual (defScope st) s.heap.objs.size f cdv)) → sp vs H Q E →
     ∃ t, PSs (cxOf (CXe P w) P w K mg base N qual (defScope st) f cdv A outer s H E) (defBody st) t ∧ t { nx := fun _ H' => Q .non H', rt := Q } (start N vs) H) : FnOk P w K mg base (CXe P w) (k + 1) f fd ps sp := by
 obtain ⟨oc, od, kV, doc, pm, an, cdv, ct, osl, rfl, lk, hcd⟩ := F.ex
 exact fn_of lk hcd S len fun A outer s H vs Q E hr hsp => hbody cdv A outer s H vs Q E hr hsp
end
end L2

set_option Elab.async false
set_option linter.all false
set_option maxRecDepth 100000
set_option maxHeartbeats 4000000
namespace L2
open PySem PySem.Spec PyProof.Rows

theorem ObjOk.ex {P : Program} {w : World} {H : Hp} {h : Heap} {a : Addr} {o : HO} (x : ObjOk P w H h a o) : ∃ u, h.get? a = some u := by
 cases o with
 | lst xs => obtain ⟨_, _, _, _, e⟩ := x; exact ⟨_, e⟩
 | tup xs => obtain ⟨_, _, _, ob, e, _⟩ := x; exact ⟨_, e⟩
 | dK kvs => obtain ⟨_, _, _, _, o, _, _, e, _⟩ := x; exact ⟨_, e⟩
 | dT kvs => obtain ⟨_, _, _, _, o, _, _, e, _⟩ := x; exact ⟨_, e⟩
 | set S n => obtain ⟨o, _, _, _, e, _⟩ := x; exact ⟨_, e⟩
 | ins C dx fs => obtain ⟨_, _, _, e, _⟩ := x; exact ⟨_, e⟩
 | own y => exact x
 | xd fs => obtain ⟨_, ⟨_, _, _, e, _⟩, _⟩ := x; exact ⟨_, e⟩
 | rng lo hi => obtain ⟨_, _, _, e⟩ := x; exact ⟨_, e⟩
 | frz ob u => obtain ⟨e, _⟩ := x; exact ⟨_, e⟩
 | tbl ps => exact ⟨_, x⟩
 | met f y => exact ⟨_, x⟩
 | ext φ => exact x.2.1
theorem HOk.none {P : Program} {w : World} {H : Hp} {h : Heap} {a : Addr} (x : HOk P w H h) (e : h.get? a = Option.none) : H a = Option.none := by
 cases q : H a with
 | none => rfl
 | some u => obtain ⟨o, z⟩ := (x a u q).ex; rw [e] at z; cases z
abbrev bmVE : List Value := [.type "ValueError", .type "Exception", .type "BaseException", .type "object"]
structure XCl (K : PySem.W.Frag) (C N : Addr) (bm : List Value) (ini : Option Value) : Prop where
 ob : ∃ nm q bs hdct sn sub ab col dd k0 k1 k2 k3 k5, K.lookup C = some (excClassObj nm q C N bs bm hdct sn sub ab col dd k0 k1 k2 k3 k5 "ValueError.__new__")
 ns : ∃ oc od es n sl, K.lookup N = some ⟨oc, od, .dict es n, sl⟩ ∧ (es.toList.all fun e => match e.key with | .str _ _ => true | _ => false) = true
 ini : PySem.W.nsIn K N "__init__" = some ini
def XTl (K : PySem.W.Frag) (bm : List Value) : Prop := bm = bmVE ∨ ∃ D ND, bm = .ref D :: bmVE ∧ XCl K D ND bmVE none
section
variable {K : PySem.W.Frag} {h : Heap} {C N : Addr} {bm : List Value} {ini : Option Value}
theorem XCl.names (x : XCl K C N bm ini) : ∃ m : Str → Option Value, m "__init__" = ini ∧ ∀ h, K.In h → h.Ns N m := by
 obtain ⟨oc, od, es, n, sl, lk, al⟩ := x.ns
 have sk : StrKeys es := fun e he => by
   have z := List.all_eq_true.mp al e (by simpa using he)
   revert z
   cases e.key <;> intro z <;> first | exact ⟨_, _, rfl⟩ | cases z
 refine ⟨nsFind es, ?_, fun h kin => ⟨_, es, n, kin _ _ lk, rfl, sk, fun _ => rfl⟩⟩
 have e := x.ini
 unfold PySem.W.nsIn at e
 rw [lk] at e
 dsimp only at e
 unfold nsFind findBy
 rw [← Array.find?_toList]
 cases q : es.toList.find? (·.key.isStr "__init__") with
 | some en =>
   rw [q] at e
   exact Option.some.inj e
 | none =>
   rw [q] at e
   dsimp only at e
   split at e
   · cases e
   · exact Option.some.inj e
theorem XCl.obj (x : XCl K C N bm ini) (kin : K.In h) : ∃ nm q bs hdct sn sub ab col dd k0 k1 k2 k3 k5, h.get? C = some (excClassObj nm q C N bs bm hdct sn sub ab col dd k0 k1 k2 k3 k5 "ValueError.__new__") := by
 obtain ⟨nm, q, bs, hdct, sn, sub, ab, col, dd, k0, k1, k2, k3, k5, e⟩ := x.ob
 exact ⟨nm, q, bs, hdct, sn, sub, ab, col, dd, k0, k1, k2, k3, k5, kin _ _ e⟩
theorem XTl.tail (x : XTl K bm) (kin : K.In h) : OwnTail h bmVE bm := by
 rcases x with rfl | ⟨D, ND, rfl, d⟩
 · exact .base
 · obtain ⟨nm, q, bs, hdct, sn, sub, ab, col, dd, k0, k1, k2, k3, k5, e⟩ := d.obj kin
   obtain ⟨m, mi, mn⟩ := d.names
   exact .own e (mn h kin) mi .base
theorem XTl.base (x : XTl K bm) : bm.contains (.type "BaseException") = true := by
 rcases x with rfl | ⟨D, ND, rfl, d⟩
 · decide
 · rw [List.contains_cons]; rfl
end

section
variable {P : Program} {w : World} {K : PySem.W.Frag} {mg : Str → Option Value} {base : Heap} {N0 : List Str} {qual : Str} {scope : Scope} {f : Addr} {cd : Value} {A : Around} {outer : List Env} {s0 : Shared} {H0 : Hp} {E : XK}
end

section
abbrev TEx := St → Hp → VK → XK → Prop
abbrev TSx := Ends → XK → St → Hp → Prop
def XP (X : Cx) (pins : List (Addr × Obj)) (σ : St) (Ex : XK) (e : Value) (s' : Shared) : Prop :=
 ∃ ea C od H' s2 H2, e = .ref ea ∧ Inv X pins σ H2 s2 ∧ Inv X pins σ H' s' ∧ (∀ b o, s2.heap.get? b = some o → ∃ o', s'.heap.get? b = some o') ∧ Exc s2.heap H' s'.heap ea C od (some .none) ∧ Ex C od H'
def PEx (X : Cx) (e : Expr) (t : TEx) : Prop :=
 ∀ (pins : List (Addr × Obj)) (s : Shared) (σ : St) (H : Hp) (Q : VK) (Ex : XK), Inv X pins σ H s → t σ H Q Ex → wpAny (model X.prog X.w) X.A (eval e X.env) (EP X pins σ Q) (XP X pins σ Ex) s
def PSx (X : Cx) (st : Stmt) (t : TSx) : Prop :=
 ∀ (pins : List (Addr × Obj)) (s : Shared) (σ : St) (H : Hp) (D : Ends) (Ex : XK), Inv X pins σ H s → t D Ex σ H → wpAny (model X.prog X.w) X.A (exec st X.env) (SP X pins D) (XP X pins σ Ex) s
def PSsx (X : Cx) (st : List Stmt) (t : TSx) : Prop :=
 ∀ (pins : List (Addr × Obj)) (s : Shared) (σ : St) (H : Hp) (D : Ends) (Ex : XK), Inv X pins σ H s → t D Ex σ H → wpAny (model X.prog X.w) X.A (execs st X.env) (SP X pins D) (XP X pins σ Ex) s
variable {X : Cx} {k : Nat} {f C : Addr} {fd : FuncData} {ps : List Str} {sp : Sp} {dvs : List V} {ds : List Value} {x m : Str} {p pos apos : Pos} {e o : Expr} {es : List Expr} {ta : TE} {t : TA} {te : TEx}
theorem thnN {α : Type} {u : Sem α} {Q Q' : α → Shared → Prop} {M : Model} {A : Around} {E : Value → Shared → Prop} {s : Shared} (h : wpAny M A u Q (fun _ _ => False) s) (hQ : ∀ a s, Q a s → Q' a s) : wpAny M A u Q' E s := wpAny_mono h hQ fun _ _ z => z.elim
theorem run_fnx {pins : List (Addr × Obj)} {σ : St} {H : Hp} {s : Shared} {Q : VK} {Ex : XK} {us : List Value} {vs : List V} (F : FnOk X.prog X.w X.K X.mg X.base (CXe X.prog X.w) k f fd ps sp) (hr : Room k X.A) (hb : Binds X.K fd ps ds) (hd : Vals dvs ds)
   (I : Inv X pins σ H s) (r : Vals vs us) (h : sp (vs ++ dvs) H Q Ex) : wpAny (model X.prog X.w) X.A (call (.ref f) us) (EP X pins σ Q) (XP X pins σ Ex) s := by
 have r2 : Vals (vs ++ dvs) (us ++ ds) := r.append hd
 have hl : (us ++ ds).length = ps.length := by rw [← r2.length]; exact F.len _ _ _ _ h
 refine wpAny_call (codeAny_mono (F.run X.A X.stack s H ⟨us, []⟩ (us ++ ds) (vs ++ dvs) Q Ex hr I.env0 (hb s us I.kIn hl) r2 h) fun r s' hq => ?_)
 cases r with
 | error e =>
   obtain ⟨ea, C, od, H', rfl, os, bare, un, hok, y, hE⟩ := hq
   exact ⟨ea, C, od, H', s, H, rfl, I, I.call' os un hok bare (fun b z => nomatch z), fun b o q => un.there b o q (by simp), y, hE⟩
 | ok fl =>
   cases fl with
   | ret u => exact I.after hq
   | next => exact False.elim hq
   | brk => exact False.elim hq
   | cont => exact False.elim hq
def tCallx (sp : Sp) (dvs : List V) (t : TA) : TEx := fun σ H Q Ex => t σ H fun vs H1 => sp (vs ++ dvs) H1 Q Ex
theorem pex_call (F : FnOk X.prog X.w X.K X.mg X.base (CXe X.prog X.w) k f fd ps sp) (hr : Room k X.A) (hg : Gl X x) (hm : X.mg x = some (.ref f)) (hk : PySem.W.keepIn X.K (.ref f) = true) (hb : Binds X.K fd ps ds) (hd : Vals dvs ds)
   (ha : PA X.nox (e :: es) t) (hdb : (x == ("__debug__" : Str)) = false := by decide) (he : starEach (e :: es) X.env = (false, eval e X.env) :: starEach es X.env := by rfl) (hpl : (backTo pos (starEach es X.env)).any (·.1) = false := by rfl) :
   PEx X (.Call (.Name x p) (e :: es) [] pos) (tCallx sp dvs t) := by
 intro pins s σ H Q Ex I h
 refine wpAny_Call_Name_kw (ld_glob I hg hm ?_ hdb)
 refine PySem.W.callWith_K (h₀ := X.base) I.ok.mod.kin hk (thnN (ha pos pins s σ H _ (I.wish _) h) fun us s1 ⟨vs, H1, I1, r, q⟩ => ⟨I1.unwish.kIn, ?_⟩) he hpl
 exact run_fnx F hr hb hd I1.unwish r q
theorem psx_set {i : Nat} {pos' : Pos} (hN : X.N.Nodup) (hi : X.N[i]? = some x) (hx : Loc X.env.scope x) (he : PEx X e te) (hs : swapsWith e (some (.Name x pos')) pos.line X.env = pure false := by rfl) (hf : X.fn x = true ∨ X.env.scope.names.lookup x = some .local := by first | exact .inl rfl | exact .inr rfl | assumption) :
   PSx X (.Assign [.Name x pos'] e pos) (fun D Ex σ H => te σ H (fun v H1 => D.nx (σ.set i (some v)) H1) Ex) := by
 intro pins s σ H D Ex I h
 refine wpAny_Assign_Name (thn (he pins s σ H _ _ I h) fun v s1 ⟨y, H1, I1, r1, q1⟩ => ?_) hs
 exact store_ok I1 hN hi hx r1 (fun s2 I2 => ⟨_, H1, I2, q1⟩) hf
theorem pssx_one {st : Stmt} {ts : TSx} (h1 : PSx X st ts) : PSsx X [st] ts := by
 intro pins s σ H D Ex I h
 refine wpAny_execs_cons (thn (h1 pins s σ H D Ex I h) fun f s1 q => ?_)
 cases f with
 | next => exact wpAny_execs_nil q
 | ret v => exact q
 | brk => exact q
 | cont => exact q
end
end L2

set_option Elab.async false
set_option linter.all false
set_option maxRecDepth 100000
set_option maxHeartbeats 4000000
namespace L2
open PySem PySem.Spec PyProof.Rows
def xcO (e : Addr) (C : Value) (od : Option Addr) : HO := .ext fun h => ∃ o vs, h.get? e = some o ∧ o.cls = C ∧ o.dict = od ∧ o.data = .fields vs ∧ vs[2]? = some .none
theorem xc_stable {e : Addr} {C : Value} {od : Option Addr} : ∀ h1 h2 : Heap, (∃ o vs, h1.get? e = some o ∧ o.cls = C ∧ o.dict = od ∧ o.data = .fields vs ∧ vs[2]? = some .none) → (∀ o, h1.get? e = some o → h2.get? e = some o) → ∃ o vs, h2.get? e = some o ∧ o.cls = C ∧ o.dict = od ∧ o.data = .fields vs ∧ vs[2]? = some .none :=
 fun _ _ ⟨o, vs, q, r⟩ k => ⟨o, vs, k o q, r⟩
theorem xc_ok {P : Program} {w : World} {H : Hp} {h : Heap} {e : Addr} {C : Value} {od : Option Addr} (x : ∃ o vs, h.get? e = some o ∧ o.cls = C ∧ o.dict = od ∧ o.data = .fields vs ∧ vs[2]? = some .none) : ObjOk P w H h e (xcO e C od) :=
 ⟨x, (let ⟨o, _, q, _⟩ := x; ⟨o, q⟩), xc_stable⟩

section
variable {X : Cx} {pins : List (Addr × Obj)} {σ σ' : St} {H H' : Hp} {s s1 : Shared}
theorem Inv.track {a : Addr} {o : HO} (I : Inv X pins σ H s) (J : Inv X pins σ' H' s1) (hex : X.ex = []) (hn : H' a = none) (hw : s.heap.get? a = none) (new : ObjOk X.prog X.w (upd H' a o) s1.heap a o) : Inv X pins σ' (upd H' a o) s1 := by
 have ne : ∀ b u, s.heap.get? b = some u → b ≠ a := fun b u e z => by rw [z, hw] at e; cases e
 have ne0 : ∀ b u, X.s₀.heap.get? b = some u → b ≠ a := fun b u e => let ⟨o', e'⟩ := I.base.there b u e (by rw [hex]; simp); ne b o' e'
 refine ⟨J.ok, J.os, J.bare, ⟨J.base.keep, J.base.slot, fun b u e n hx => ?_, J.base.there, fun b xs e => ?_, fun b u v e => ?_, fun b ps e => ?_⟩, J.loc, J.cell, ?_, fun x c e => ?_, fun p hp => ?_, fun b u e => ?_, J.len⟩
 · rw [upd_ne (ne0 b u e)]; exact J.base.free b u e n hx
 · have z := J.base.tups b xs e
   rw [upd_ne (ne_of_none z hn)]; exact z
 · have z := J.base.frzs b u v e
   rw [upd_ne (ne_of_none z hn)]; exact z
 · obtain ⟨more, z⟩ := J.base.tbls b ps e
   exact ⟨more, by rw [upd_ne (ne_of_none z hn)]; exact z⟩
 · obtain ⟨m, ⟨oL, _, _, eL, _⟩, _⟩ := I.loc
   rw [upd_ne (ne _ _ eL)]; exact J.free
 · obtain ⟨v, oc, ec, _⟩ := I.cell x c e
   rw [upd_ne (ne _ _ ec)]; exact J.freeC x c e
 · obtain ⟨e0, _⟩ := I.pin p hp
   obtain ⟨e1, n1, r⟩ := J.pin p hp
   exact ⟨e1, by rw [upd_ne (ne _ _ e0)]; exact n1, r⟩
 · by_cases hb : b = a
   · subst hb; rw [upd_same] at e; cases e; exact new
   · rw [upd_ne hb] at e
     exact (J.hok b u e).stay (fun c v _ q => q) (fun c q => by rw [upd_ne (ne_of_none q hn)]; exact q) fun c xs q => by rw [upd_ne (ne_of_none q hn)]; exact q
theorem Inv.gone {i : Nat} {n : Str} {h' : Heap} {v : Option Value} {tk : Nat} {m : Str → Option Value} (I : Inv X pins σ H s) (hN : X.N.Nodup) (hi : X.N[i]? = some n)
   (hm : s.heap.Ns X.env.locals m) (hn : h'.Ns X.env.locals (fun x => if x = n then v else m x)) (hs : Heap.SameBut X.env.locals s.heap h') : Inv X pins (σ.set i none) H { s with heap := h', toks := tk } := by
 obtain ⟨m0, hn0, hl⟩ := I.loc
 have em : m0 = m := by
   obtain ⟨o1, es1, ep1, q1, d1, _, f1⟩ := hn0
   obtain ⟨o2, es2, ep2, q2, d2, _, f2⟩ := hm
   rw [q1] at q2
   cases q2
   rw [d1] at d2
   cases d2
   funext x
   rw [← f1, ← f2]
 subst em
 have hil : i < σ.length := by rw [I.len]; exact (List.getElem?_eq_some_iff.mp hi).1
 have ab : ∀ b o, X.s₀.heap.get? b = some o → b ≠ X.env.locals := fun b o e => Nat.ne_of_lt (Nat.lt_of_lt_of_le (Heap.lt_size e) I.ok.above)
 have hk : HOk X.prog X.w H h' := fun b ob e => by
   refine (I.hok b ob e).stay (fun c w' hc q => (hs.2 c ?_).trans q) (fun _ q => q) fun _ _ q => q
   rintro rfl
   rcases hc with rfl | hc
   · rw [I.free] at e; cases e
   · rw [I.free] at hc; cases hc
 refine ⟨I.ok, I.os, I.bare, ⟨fun b o e n hb hx => (hs.2 b (ab b o e)).trans (I.base.keep b o e n hb hx), fun b o e n hb hx => ?_, I.base.free, fun b o e hx => ?_, I.base.tups, I.base.frzs, I.base.tbls⟩, ⟨_, hn, fun j y u e1 e2 e3 => ?_⟩, fun y c e => ?_, I.free, I.freeC, fun p hp => ?_, hk, by simpa using I.len⟩
 · obtain ⟨sl, e1⟩ := I.base.slot b o e n hb hx
   exact ⟨sl, (hs.2 b (ab b o e)).trans e1⟩
 · obtain ⟨o', e1⟩ := I.base.there b o e hx
   exact ⟨o', (hs.2 b (ab b o e)).trans e1⟩
 · by_cases hj : j = i
   · subst hj
     rw [List.getElem?_set_self hil] at e2
     cases e2
   · rw [List.getElem?_set_ne (Ne.symm hj)] at e2
     obtain ⟨u', r', q⟩ := hl j y u e1 e2 e3
     refine ⟨u', r', ?_⟩
     have hne : y ≠ n := fun z => hj (nodup_ix hN e1 (z ▸ hi))
     rcases q with ⟨k, e⟩ | ⟨k, c, e, z⟩
     · exact .inl ⟨k, by simp [hne, e]⟩
     · exact .inr ⟨k, c, e, z.sameBut hs (I.cne y c e)⟩
 · obtain ⟨w', z⟩ := I.cell y c e
   exact ⟨w', z.sameBut hs (I.cne y c e)⟩
 · obtain ⟨e, n, ne, nf, d⟩ := I.pin p hp
   exact ⟨(hs.2 p.1 ne).trans e, n, ne, nf, d⟩
end

section
variable {M : Model} {A : Around} {E : Value → Shared → Prop} {K : PySem.W.Frag} {s : Shared} {C D N N' ea : Addr} {bm bm' : List Value} {ini ini' : Option Value} {Q : Bool → Shared → Prop}
theorem exc_matches {oe : Obj} (kin : K.In s.heap) (c : XCl K C N bm ini) (d : XCl K D N' bm' ini') (td : XTl K bm') (he : s.heap.get? ea = some oe) (hc : oe.cls = .ref C) (h : Q ((Value.ref C :: bm).contains (.ref D)) s) :
   wpAny M A (excMatches (.ref ea) (.ref D)) Q E s := by
 obtain ⟨nm, q, bs, hdct, sn, sub, ab, col, dd, k0, k1, k2, k3, k5, lc⟩ := c.obj kin
 obtain ⟨nm', q', bs', hdct', sn', sub', ab', col', dd', k0', k1', k2', k3', k5', ld⟩ := d.obj kin
 have hB : (Value.ref D :: bm').contains (.type "BaseException") = true := by rw [List.contains_cons, td.base]; rfl
 have f := tc_notTuple
 obtain ⟨hp, g, dr, tk, os⟩ := s
 unfold excMatches
 repeat (first | (with_reducible refine wpAny_loadPart_at he ?_; rw [hc]) | with_reducible refine wpAny_loadPart_at ld ?_ | (with_reducible refine wpAny_isSubtype_exc ld ?_; rw [hB]) | with_reducible refine wpAny_isSubtype_exc lc ?_ | wp_step)
 cases hb : (Value.ref C :: bm).contains (.ref D) <;> (rw [hb] at h; wp_walk; exact h)
end
abbrev Cx.han (X : Cx) (ea : Addr) : Cx := { X with A := X.A.mark (some (.ref ea)), calm := false, xe := fun _ _ => False }
section
variable {X : Cx} {pins : List (Addr × Obj)} {σ : St} {H : Hp} {s : Shared} {ea : Addr}
theorem Cx.Ok.han (ok : X.Ok) (ea : Addr) : (X.han ea).Ok :=
 ⟨ok.mod, ok.kind, ok.glob, ok.blt, ok.above, ok.inj, ok.has, ok.cab, (fun z => nomatch (show false = true from z)), ok.frames, ok.stk, ok.exf, ok.bs, ok.bsz, ok.noex, ok.exfs, ok.funs, ok.frf⟩
theorem Inv.han (I : Inv X pins σ H s) (ea : Addr) : Inv (X.han ea) pins σ H s := ⟨I.ok.han ea, I.os, I.bare, I.base, I.loc, I.cell, I.free, I.freeC, I.pin, I.hok, I.len⟩
theorem Inv.unhan (ok : X.Ok) (I : Inv (X.han ea) pins σ H s) : Inv X pins σ H s := ⟨ok, I.os, I.bare, I.base, I.loc, I.cell, I.free, I.freeC, I.pin, I.hok, I.len⟩

abbrev TH := Addr → Value → Option Addr → TS
def PHs (X : Cx) (hs : List ExceptHandler) (t : TH) : Prop :=
 ∀ (pins : List (Addr × Obj)) (s : Shared) (σ : St) (H : Hp) (D : Ends) (ea : Addr) (C : Value) (od : Option Addr) (s2 : Shared) (H2 : Hp), Inv X pins σ H2 s2 → Inv X pins σ H s → (∀ b o, s2.heap.get? b = some o → ∃ o', s.heap.get? b = some o') →
   Exc s2.heap H s.heap ea C od (some .none) → t ea C od D σ H → wpAny (model X.prog X.w) X.A (handleBy (.ref ea) X.env hs) (SP X pins D) X.xe s
theorem ph_nil : PHs X [] (fun _ _ _ _ _ _ => False) := fun _ _ _ _ _ _ _ _ _ _ _ _ _ _ h => h.elim

def tHand (K : PySem.W.Frag) (Dc : Addr) (i : Nat) (tb : Addr → TS) (tr : TH) : TH := fun ea C od D σ H => ∃ Cc N bm ini, C = .ref Cc ∧ XCl K Cc N bm ini ∧
 if (Value.ref Cc :: bm).contains (.ref Dc) = true then tb ea { nx := fun σ' H' => D.nx (σ'.set i none) H', rt := D.rt, bk := fun σ' H' => D.bk (σ'.set i none) H', ct := fun σ' H' => D.ct (σ'.set i none) H' } (σ.set i (some (.ref ea))) (upd H ea (xcO ea C od)) else tr ea C od D σ H
theorem ph_as {i : Nat} {x n : Str} {np hpos : Pos} {b₀ : Stmt} {suite : List Stmt} {rest : List ExceptHandler} {Dc ND : Addr} {bmD : List Value} {iniD : Option Value} {tb : Addr → TS} {tr : TH} (hex : X.ex = []) (hg : Gl X x) (hm : X.mg x = some (.ref Dc))
   (d : XCl X.K Dc ND bmD iniD) (td : XTl X.K bmD) (hN : X.N.Nodup) (hi : X.N[i]? = some n) (hl : X.env.scope.names.lookup n = some .local) (hb : ∀ ea, PSs (X.han ea) (b₀ :: suite) (tb ea)) (hr : PHs X rest tr)
   (hdb : (x == ("__debug__" : Str)) = false := by decide) : PHs X (.ExceptHandler (some (.Name x np)) (some n) (b₀ :: suite) hpos :: rest) (tHand X.K Dc i tb tr) := by
 rintro pins s σ H D ea C od s2 H2 I2 J ht y ⟨Cc, N, bm, ini, rfl, c, q⟩
 obtain ⟨fr, nw, oe, vs, he, hc, hdi, hd, fa⟩ := id y
 refine wpAny_handleBy_cons (codeAny_handlers_test (ld_glob (X := X.han ea) (J.han ea) hg hm ?_ hdb)) (by intro z; cases z)
 refine exc_matches J.kIn c d td he hc ?_
 cases hb2 : (Value.ref Cc :: bm).contains (.ref Dc) with
 | false =>
   rw [hb2, if_neg Bool.false_ne_true] at q
   exact hr pins s σ H D ea _ od s2 H2 I2 J ht y q
 | true =>
   rw [hb2, if_pos rfl] at q
   refine codeAny_handlers_suite_as ?_
   refine land_exc y fun h1 ch hch mv y1 => ?_
   have J1 := I2.mv J (mv.mono (fun b z => nomatch z) fun b z => z) hch
   obtain ⟨fr1, nw1, oe1, vs1, he1, hc1, hdi1, hd1, fa1⟩ := id y1
   have J2 := I2.track J1 (o := xcO ea (.ref Cc) od) hex fr1 nw1 (xc_ok ⟨oe1, vs1, he1, hc1, hdi1, hd1, fa1.cx⟩)
   refine store_ok J2 hN hi (.inl hl) (show RelV (.ref ea) (.ref ea) from rfl) (fun s3 J3 => ?_) (.inr hl)
   refine wpAny_mono (hb ea pins s3 _ _ _ (J3.han ea) q) (fun f s4 r => ?_) fun _ _ z => z.elim
   have hp : (X.env.scope.kind == .class || (X.env.scope.kind == .module && X.env.locals != X.env.globals)) = false := by rw [J.ok.kind]; rfl
   have go : ∀ {σ' : St} {H' : Hp} {Q : Unit → Shared → Prop}, Inv (X.han ea) pins σ' H' s4 → (∀ s5, Inv X pins (σ'.set i none) H' s5 → Q () s5) → wpAny (model X.prog X.w) X.A (do bindName X.env n .none; unbindBehindTheSuite X.env n hpos) Q X.xe s4 := fun {σ' H' Q} I4 k => by
     have I5 := I4.unhan J.ok
     obtain ⟨m, hn, _⟩ := id I5.loc
     exact wpAny_nameGoes_keeps hl hn hp fun h' v hn' hs => k _ (I5.gone hN hi hn hn' hs)
   cases f with
   | next => obtain ⟨σ', H', I4, q4⟩ := r; exact go I4 fun s5 I5 => ⟨_, H', I5, q4⟩
   | brk => obtain ⟨σ', H', I4, q4⟩ := r; exact go I4 fun s5 I5 => ⟨_, H', I5, q4⟩
   | cont => obtain ⟨σ', H', I4, q4⟩ := r; exact go I4 fun s5 I5 => ⟨_, H', I5, q4⟩
   | ret u => obtain ⟨v, σ', H', I4, rv, q4⟩ := r; exact go I4 fun s5 I5 => ⟨v, _, H', I5, rv, q4⟩
def tTryX (tb : TSx) (th : TH) (to : TS) : TS := fun D σ H => tb { D with nx := fun σ1 H1 => to D σ1 H1 } (fun C od H' => ∀ ea, H' ea = none → th ea C od D σ H') σ H
theorem ps_tryX {body orelse : List Stmt} {h₀ : ExceptHandler} {hs : List ExceptHandler} {pos : Pos} {tb : TSx} {th : TH} {to : TS} (hst : X.stack = X.env :: X.outer) (hfm : X.env.frame = some X.env.locals) (hb : PSsx X body tb) (hh : PHs X (h₀ :: hs) th) (ho : PSs X orelse to) :
   PS X (.Try body (h₀ :: hs) orelse [] pos) (tTryX tb th to) := by
 intro pins s σ H D I h
 refine wpAny_Try_except (wpAny_mono (hb pins s σ H _ _ I h) (fun f s1 q => ?_) fun e s1 q => ?_)
 · cases f with
   | next => obtain ⟨σ1, H1, I1, q1⟩ := q; exact ho pins s1 σ1 H1 D I1 q1
   | ret u => exact q
   | brk => exact q
   | cont => exact q
 · obtain ⟨ea, C, od, H', s2, H2, rfl, I2, J, ht, y, hE⟩ := q
   have hl := J.stack
   rw [hst] at hl
   refine note_exc (J.ok.frames.trans (by rw [hst])) hl hfm y (.inr (.inl rfl)) ht (fun b hb => J.hok.fresh hb) fun h1 ch hc m y1 => ?_
   have J1 := I2.mv J (h' := h1) (by rw [hst]; exact m) hc
   have ht1 : ∀ b o, s2.heap.get? b = some o → ∃ o', h1.get? b = some o' := fun b o q => let ⟨o', q'⟩ := ht b o q; m.there b o' q'
   refine land_exc y1 fun h2 ch2 hc2 m2 y2 => ?_
   have J2 := I2.mv J1 (h' := h2) (m2.mono (fun b z => nomatch z) fun b z => z) hc2
   exact hh pins _ σ H' D ea C od s2 H2 I2 J2 (fun b o q => let ⟨o', q'⟩ := ht1 b o q; m2.there b o' q') y2 (hE ea y2.fr)
end
end L2

set_option Elab.async false
set_option linter.all false
set_option maxRecDepth 100000
set_option maxHeartbeats 1000000
namespace L2
open PySem PySem.Spec PyProof.Rows PySem.Builtin PySem.Builtin.ObjectAttr
theorem refuse_VE (self : Value) : refuseLoop self "__setattr__" bmVE = pure () := by kernel_rfl
theorem refuse_tail {K : PySem.W.Frag} {bm : List Value} (tl : XTl K bm) (self : Value) : refuseLoop self "__setattr__" bm = pure () := by
 rcases tl with rfl | ⟨D, ND, rfl, d⟩
 · exact refuse_VE self
 · rw [refuseLoop_ref]; exact refuse_VE self
structure XAt (K : PySem.W.Frag) (C : Addr) (f : Str) : Prop where
 no : PySem.W.findIn K (.ref C) f = some none
 sa : PySem.W.findIn K (.ref C) "__setattr__" = some (some (.builtin "object.__setattr__"))
 ga : PySem.W.findIn K (.ref C) "__getattribute__" = some (some (.builtin "BaseException.__getattribute__"))
 gx : PySem.W.findIn K (.ref C) "__getattr__" = some none
 hd : PySem.W.hasDictIn K C = true
section
variable {P : Program} {w : World} {A : Around} {E : Value → Shared → Prop} {s : Shared} {K : PySem.W.Frag} {C N x : Addr} {bm : List Value} {ini : Option Value} {f : Str} {v : Value} {ox : Obj} {vs : Array Value}
theorem XCl.cls (c : XCl K C N bm ini) (h : PySem.W.hasDictIn K C = true) : ∃ cd, PySem.W.clsIn K C = some cd ∧ cd.mro = .ref C :: bm ∧ cd.hasDict = true := by
 obtain ⟨nm, q, bs, hdct, sn, sub, ab, col, dd, k0, k1, k2, k3, k5, lk⟩ := c.ob
 obtain ⟨cd, hc, hd⟩ := PySem.W.any_some h
 refine ⟨cd, hc, ?_, hd⟩
 unfold PySem.W.clsIn at hc
 rw [lk] at hc
 cases hc
 rfl
theorem exc_osa {od : Option Obj} {tk : Tok} {R : Result → Shared → Prop} (kin : K.In s.heap) (c : XCl K C N bm ini) (tl : XTl K bm) (a : XAt K C f) (J : PySem.W.InstAt s.heap x ox C od)
   (h : ∀ b, wpAny (model P w) A.in1 (storeInOwnDict (.ref x) (.ref C) (.str f tk) f v b) (fun fin s' => match fin with | .done g => R (.ok g) s' | .again c' => c'.quiet = true ∧ codeAny (model P w) A c' R s') (fun e s' => R (.error e) s') s) :
   codeAny (model P w) A (.call (.builtin "object.__setattr__") ⟨[.ref x, .str f tk, v], []⟩) R s := by
 obtain ⟨cd, hc, hm, hd⟩ := c.cls a.hd
 have SF := PySem.F.store_object
 have hmro : PySem.W.Looks (model P w) s.heap (mroOf (.ref C)) cd.mro := (PySem.W.looks_clsIn kin hc).andThen .now
 have hob : (cd.mro.contains (.type "object")) = true := by
   rw [hm, List.contains_cons]
   rcases tl with rfl | ⟨D, ND, rfl, d⟩
   · rfl
   · rw [List.contains_cons]; rfl
 have ne : cd.mro.isEmpty = false := by rw [hm]; rfl
 have sub : PySem.W.Looks (model P w) s.heap (isInstance (.ref x) (.type "object")) true :=
   J.type.andThen (PySem.W.looks_mroIn kin (by unfold PySem.W.mroIn; rw [hc, Option.bind_some, if_neg (by rw [ne]; decide), hob]))
 refine codeAny_call_builtin SF.slot.plain SF.entry (PySem.W.check_slot (M := model P w) (s := s) (i := "object.__setattr__") (owner := "object") (n := "__setattr__") (self := .ref x) (rest := [.str f tk, v]) (kw := []) SF.kind SF.split sub (SF.args (.ref x) (.str f tk) v) ?_)
 rw [PySem.W.osa_eq, refuse_eq]
 refine wpAny_bind (wpAny_bind (J.type.here (wpAny_bind (hmro.here ?_))))
 rw [hm, refuseLoop_ref, refuse_tail tl]
 have L3 : PySem.W.Looks (model P w) s.heap (storeTaker? none) none := .now
 refine wpAny_pure (wpAny_bind (J.type.here (wpAny_bind ((PySem.W.looks_findIn kin a.no).here (wpAny_bind (L3.here ?_))))))
 exact h _

theorem ns1_nil {h : Heap} {d : Addr} {o : Obj} (e : h.get? d = some o) (hd : o.data = .dict #[] 0) : h.Ns1 d (fun _ => none) :=
 ⟨o, #[], 0, e, hd, fun e he => absurd he (by simp), (by first | exact fun i j e e' h1 => absurd h1 (by simp) | simp [UniqKeys]), fun _ => rfl⟩
theorem exc_set1 {Q : Unit → Shared → Prop} (kin : K.In s.heap) (c : XCl K C N bm ini) (tl : XTl K bm) (a : XAt K C f) (hx : s.heap.get? x = some ox) (hc : ox.cls = .ref C) (hdi : ox.dict = none) (hd : ox.data = .fields vs)
   (h : ∀ h' tk, h'.get? x = some { ox with dict := some s.heap.objs.size } → h'.Ns1 s.heap.objs.size (fun y => if y = f then some v else none) → (∀ b o, b ≠ x → s.heap.get? b = some o → h'.get? b = some o) → Q () { s with heap := h', toks := tk }) :
   wpAny (model P w) A (setAttr (.ref x) f v) Q E s := by
 have J : PySem.W.InstAt s.heap x ox C none := ⟨hx, hc, by obtain ⟨oc, odi, oda, osl⟩ := ox; cases hd; rfl, by rw [hdi]; exact True.intro⟩
 refine PySem.W.set_plain kin J a.sa (exc_osa (s := { s with toks := s.toks + 1 }) kin c tl a J fun b => ?_)
 obtain ⟨cd, hcd, hm, hdd⟩ := c.cls a.hd
 obtain ⟨oc, odi, oda, osl⟩ := ox
 dsimp only at hc hdi hd
 subst hc hdi hd
 refine wpAny_bind (wpAny_pure (wpAny_bind (wpAny_bind (wpAny_loadPart hx (wpAny_bind (PySem.W.Looks.here (s := { s with toks := s.toks + 1 }) (PySem.W.looks_clsIn kin hcd) ?_))))))
 rw [hdd]
 refine wpAny_bind (wpAny_alloc ?_)
 have x1 : (s.heap.push { cls := .type "dict", data := .dict #[] }).get? x = some ⟨.ref C, none, .fields vs, osl⟩ := Heap.get?_push_of_some _ hx
 refine wpAny_bind (wpAny_update x1 ?_)
 refine wpAny_pure (a := some s.heap.objs.size) ?_
 show wpAny _ _ (storeInDict s.heap.objs.size (Value.str f s.toks) f v) _ _ _
 unfold storeInDict
 refine wpAny_bind (m := newKeyGuard _ _ _) ?_
 refine wpAny_pure (wpAny_bind ?_)
 have ne : s.heap.objs.size ≠ x := Nat.ne_of_gt (Heap.lt_size hx)
 have d1 : ((s.heap.push { cls := .type "dict", data := .dict #[] }).update x fun o => { o with dict := some s.heap.objs.size }).get? s.heap.objs.size = some { cls := .type "dict", data := .dict #[] } :=
   (Heap.get?_update_other _ _ (Ne.symm ne)).trans (Heap.get?_push_size s.heap rfl)
 have x2 : ((s.heap.push { cls := .type "dict", data := .dict #[] }).update x fun o => { o with dict := some s.heap.objs.size }).get? x = some ⟨.ref C, some s.heap.objs.size, .fields vs, osl⟩ := Heap.get?_update_self _ x1 rfl
 refine wpAny_nsSet1 (ns1_nil d1 rfl) fun h' hn2 hs2 => ?_
 obtain ⟨oD, esD, epD, hoD, hdD, hcD⟩ := hn2.count (ns := [f]) (PySem.Within.cons f v (ns := []) (fun y hy => absurd rfl hy))
 refine wpAny_bind (wpAny_lookBehind hoD (by rw [hdD]; exact pastItsLine_dict (Nat.le_trans hcD (Nat.le_add_left 1 sizeLine))) ?_)
 refine wpAny_pure (h _ _ ((hs2.2 _ (Ne.symm ne)).trans x2) hn2 fun b o hb q => ?_)
 have nb : b ≠ s.heap.objs.size := Nat.ne_of_lt (Heap.lt_size q)
 exact (hs2.2 b nb).trans ((Heap.get?_update_other _ _ (Ne.symm hb)).trans (Heap.get?_push_of_some _ q))
theorem exc_set2 {d : Addr} {mA : Str → Option Value} {ns : List Str} {Q : Unit → Shared → Prop} (kin : K.In s.heap) (c : XCl K C N bm ini) (tl : XTl K bm) (a : XAt K C f) (hx : s.heap.get? x = some ox) (hc : ox.cls = .ref C) (hdi : ox.dict = some d) (hd : ox.data = .fields vs)
   (hn : s.heap.Ns1 d mA) (hw : PySem.Within mA ns) (hsz : ns.length ≤ sizeLine)
   (h : ∀ h' tk, h'.Ns1 d (fun y => if y = f then some v else mA y) → Heap.SameBut d s.heap h' → Q () { s with heap := h', toks := tk }) :
   wpAny (model P w) A (setAttr (.ref x) f v) Q E s := by
 obtain ⟨od, ho, hl⟩ := lookIn_ns hn
 have J : PySem.W.InstAt s.heap x ox C (some od) := ⟨hx, hc, by obtain ⟨oc, odi, oda, osl⟩ := ox; cases hd; rfl, by rw [hdi]; exact ho⟩
 refine PySem.W.set_plain kin J a.sa (exc_osa (s := { s with toks := s.toks + 1 }) kin c tl a J fun b => ?_)
 obtain ⟨cd, hcd, hm, hdd⟩ := c.cls a.hd
 obtain ⟨oc, odi, oda, osl⟩ := ox
 dsimp only at hc hdi hd
 subst hc hdi hd
 refine wpAny_bind (wpAny_pure (wpAny_bind (wpAny_bind (wpAny_loadPart hx (wpAny_bind (PySem.W.Looks.here (s := { s with toks := s.toks + 1 }) (PySem.W.looks_clsIn kin hcd) ?_))))))
 rw [hdd]
 refine wpAny_pure (a := some d) ?_
 show wpAny _ _ (storeInDict d (Value.str f s.toks) f v) _ _ _
 unfold storeInDict
 refine wpAny_bind (m := newKeyGuard _ _ _) ?_
 refine wpAny_pure (wpAny_bind ?_)
 refine wpAny_nsSet1 (s := { s with toks := s.toks + 1 }) hn fun h' hn2 hs2 => ?_
 obtain ⟨oD, esD, epD, hoD, hdD, hcD⟩ := hn2.count (PySem.Within.cons f v hw)
 refine wpAny_bind (wpAny_lookBehind hoD (by rw [hdD]; exact pastItsLine_dict (Nat.le_trans hcD (by rw [List.length_cons]; omega))) ?_)
 exact wpAny_pure (h _ _ hn2 hs2)
theorem oga_run {tk : Tok} {Q : Fin → Shared → Prop} {tp : Value} (L0 : PySem.W.Looks (model P w) s.heap (typeOf (.ref x)) tp) (L1 : PySem.W.Looks (model P w) s.heap (find (.ref x) tp f) (.value v)) (h : Q (.done (.ret v)) s) :
   wpAny (model P w) A (Builtin.«object.__getattribute__» ⟨[.ref x, .str f tk], []⟩) Q E s := by
 unfold Builtin.«object.__getattribute__»
 refine wpAny_bind (m := slotArgs _ _ _) ?_
 refine wpAny_pure (a := (Value.ref x, [Value.str f tk])) ?_
 refine wpAny_bind (m := attrName _) ?_
 refine wpAny_pure (a := f) ?_
 refine wpAny_bind (L0.here ?_)
 refine wpAny_bind (L1.here ?_)
 exact wpAny_pure h
theorem exc_get {d : Addr} {mA : Str → Option Value} {expr : Bool} {Q : Value → Shared → Prop} (kin : K.In s.heap) (c : XCl K C N bm ini) (tl : XTl K bm) (a : XAt K C f) (hx : s.heap.get? x = some ox) (hc : ox.cls = .ref C) (hdi : ox.dict = some d) (hd : ox.data = .fields vs)
   (hn : s.heap.Ns1 d mA) (hv : mA f = some v) (hh : PySem.W.handedIn v = true) (h : Q v { s with toks := s.toks + 1 }) : wpAny (model P w) A (getAttr (.ref x) f expr) Q E s := by
 obtain ⟨od, ho, hl⟩ := lookIn_ns hn
 have J : PySem.W.InstAt s.heap x ox C (some od) := ⟨hx, hc, by obtain ⟨oc, odi, oda, osl⟩ := ox; cases hd; rfl, by rw [hdi]; exact ho⟩
 have FO : PySem.W.findObj K C (some od) f = some (.value v) := PySem.W.findObj_own a.hd a.no rfl (by rw [hl, hv])
 obtain ⟨cd, hcd, hm, hdd⟩ := c.cls a.hd
 have hob : (cd.mro.contains (.type "BaseException")) = true := by rw [hm, List.contains_cons, tl.base]; rfl
 have ne : cd.mro.isEmpty = false := by rw [hm]; rfl
 have sub : PySem.W.Looks (model P w) s.heap (isInstance (.ref x) (.type "BaseException")) true :=
   J.type.andThen (PySem.W.looks_mroIn kin (by unfold PySem.W.mroIn; rw [hcd, Option.bind_some, if_neg (by rw [ne]; decide), hob]))
 have hk : PySem.W.Looks (model P w) s.heap (hookBefore (.ref C)) none := PySem.W.looks_hook kin (by show (if onTheHeap (.ref C) then _ else _) = _; exact a.gx)
 refine wpAny_bind (wpAny_mkText (wpAny_holding (wpAny_bind (J.type _ _ _ _ (fun _ _ e => e) (wpAny_bind (PySem.W.looks_findIn kin a.ga _ _ _ _ (fun _ _ e => e) ?_))))))
 dsimp only
 rw [show (onTheHeap (Value.ref C) && Value.builtin "BaseException.__getattribute__" == Value.builtin "object.__getattribute__") = false from by rw [show (Value.builtin "BaseException.__getattribute__" == Value.builtin "object.__getattribute__") = false from by decide +kernel]; exact Bool.and_false _, if_neg (by decide)]
 refine wpAny_bind (hk _ _ _ _ (fun _ _ e => e) (wpAny_bind (wpAny_attempt (wpAny_holding ?_))))
 unfold callGetattribute
 rw [show (expr && onTheHeap (Value.builtin "BaseException.__getattribute__")) = false from Bool.and_false _, if_neg (by decide)]
 unfold boundAndCalled
 rw [PySem.F.attr_ValueError.ga.bind]
 refine wpAny_bind (wpAny_pure ?_)
 show wpAny _ _ (call (.builtin "BaseException.__getattribute__") [.ref x, .str f s.toks]) _ _ _
 refine wpAny_call (codeAny_call_builtin PySem.F.attr_ValueError.ga.plain PySem.F.entry_bexc_ga (PySem.W.check_slot (M := model P w) (s := { s with toks := s.toks + 1 }) (i := "BaseException.__getattribute__") (owner := "BaseException") (n := "__getattribute__") (self := .ref x) (rest := [.str f s.toks]) (kw := []) (by decide +kernel) (by decide +kernel) sub (PySem.F.args_bexc_ga (.ref x) (.str f s.toks)) ?_))
 have L1 := PySem.W.looks_find (M := model P w) kin J FO
 refine oga_run (s := { s with toks := s.toks + 1 }) J.type L1 ?_
 show wpAny _ _ (handedOut v) _ _ _
 rw [PySem.W.handedOut_of hh]
 exact wpAny_pure h
end
end L2

set_option Elab.async false
set_option linter.all false
set_option maxRecDepth 100000
set_option maxHeartbeats 1000000
namespace L2
open PySem PySem.Spec PyProof.Rows PySem.Builtin PySem.Builtin.ObjectAttr

section
variable {P : Program} {w : World} {A : Around} {E : Value → Shared → Prop} {K : PySem.W.Frag} {C N fI : Addr} {bm : List Value} {us : List Value}
theorem exc_made_type {h : Heap} {g : Array GenState} {dr : Drawn} {tk : Nat} {os : OsState} {oI : Obj} {Q : Fin → Shared → Prop} (kin : K.In h) (c : XCl K C N bm (some (.ref fI))) (tl : XTl K bm) (lf : h.get? fI = some oI) (cf : oI.cls = .type "function")
   (k : ∀ h' e, Heap.MadeExcOf h h' e (.ref C) us → wpAny (model P w) A (call (.ref fI) (.ref e :: us)) (fun r s' => r = .none ∧ Q (.done (.ret (.ref e))) s') E ⟨h', g, dr, tk, os⟩) (hu : us.length ≤ sizeLine) :
   wpAny (model P w) A (Builtin.«type.__call__» ⟨.ref C :: us, []⟩) Q E ⟨h, g, dr, tk, os⟩ := by
 obtain ⟨nm, q, bs, hdct, sn, sub, ab, col, dd, k0, k1, k2, k3, k5, lc⟩ := c.obj kin
 obtain ⟨m, mi, mn⟩ := c.names
 have T := tl.tail kin
 have VE := PySem.F.excBase_ValueError
 repeat (first | with_reducible refine wpAny_loadPart_at lc ?_ | with_reducible refine wpAny_madeBy_exc lc ?_ | wp_step)
 refine codeAny_call_builtin_code (Code.quiet_builtin _ VE.quiet) (wpAny_check_new_subU VE (by decide) T lc (codeAny_exc_new_subU VE (by decide) VE T lc ?_ hu))
 show wpAny _ _ _ _ _ _
 generalize ho1 : ({ cls := .type "tuple", data := .seq us.toArray } : Obj) = o1
 generalize ho2 : ({ cls := .ref C, data := .fields #[.ref h.objs.size, .none, .none, .none, .bool false, .none] } : Obj) = o2
 have up : ∀ b o, h.get? b = some o → ((h.push o1).push o2).get? b = some o := fun b o z => Heap.get?_push_of_some _ (Heap.get?_push_of_some _ z)
 have lc1 := up _ _ lc
 have lf1 := up _ _ lf
 have n1 := mn _ (kin.keeps up)
 have T1 := T.keeps up
 have z2 : (h.push o1).objs.size = h.objs.size + 1 := Heap.size_push ..
 have ge : ((h.push o1).push o2).get? (h.objs.size + 1) = some o2 := by rw [← z2]; exact Heap.get?_push_size _ (by rw [← ho2]; rfl)
 have oc : o2.cls = .ref C := by rw [← ho2]
 have cc : (Value.ref C :: bm).contains (.ref C) = true := by simp
 unfold isInstance
 repeat (first | (with_reducible refine wpAny_loadPart_at ge ?_; rw [oc]) | (with_reducible refine wpAny_isSubtype_exc lc1 ?_; rw [cc]) | wp_step)
 show wpAny _ _ (typeLookup (.ref C) _) _ _ _
 refine wpAny_typeLookup_tail lc1 n1 T1 VE.mroIs VE.init.lookup ?_
 rw [mi]
 refine wpAny_holding (wpAny_bind ?_)
 unfold bindSpecial
 refine wpAny_bind (wpAny_typeOf (T := "function") ⟨_, lf1, cf⟩ ?_)
 rw [if_pos (by decide)]
 have hm : Heap.MadeExcOf h ((h.push o1).push o2) (h.objs.size + 1) (.ref C) us :=
   ⟨up, Heap.get?_none_of_le (Nat.le_succ _), h.objs.size, by rw [ge, ← ho2], Heap.get?_none_of_le (Nat.le_refl _), by rw [Heap.get?_push_of_some _ (Heap.get?_push_at rfl (by rw [← ho1]; rfl)), ← ho1]⟩
 refine wpAny_pure (wpAny_bind (wpAny_mono (k _ _ hm) (fun r s' hr => ?_) fun _ _ z => z))
 obtain ⟨rfl, hQ⟩ := hr
 wp_walk
 exact hQ

theorem exc_made {s : Shared} {oI : Obj} {Q : Value → Shared → Prop} (kin : K.In s.heap) (c : XCl K C N bm (some (.ref fI))) (tl : XTl K bm) (lf : s.heap.get? fI = some oI) (cf : oI.cls = .type "function")
   (k : ∀ h' e, Heap.MadeExcOf s.heap h' e (.ref C) us → wpAny (model P w) (A.under (.builtin "type.__call__" ⟨.ref C :: us, []⟩)) (call (.ref fI) (.ref e :: us)) (fun r s' => r = .none ∧ Q (.ref e) s') E { s with heap := h' }) (hu : us.length ≤ sizeLine) :
   wpAny (model P w) A (call (.ref C) us) Q E s := by
 obtain ⟨nm, q, bs, hdct, sn, sub, ab, col, dd, k0, k1, k2, k3, k5, lc⟩ := c.obj kin
 obtain ⟨h, g, dr, tk, os⟩ := s
 have t1 := tc_lookup
 have t2 := tc_bind (.ref C)
 have tT : (⟨h, g, dr, tk, os⟩ : Shared).TypeIs (.ref C) "type" := ⟨_, lc, rfl⟩
 refine wpAny_call (codeAny_of_tree ?_)
 show wpAny _ _ (callAny (.ref C) _) _ _ _
 repeat (any_goals (first | assumption | with_reducible refine wpAny_loadPart_at lc ?_ | wp_step))
 exact ⟨rfl, codeAny_call_builtin_at (Code.quiet_builtin _ (by decide +kernel)) entry_typeCall (wpAny_check_type_call_sub lc (exc_made_type kin c tl lf cf k hu))⟩
theorem exc_init {s : Shared} {ea : Addr} {oe : Obj} {vs : Array Value} {v : Value} {ini : Option Value} {Q : Value → Shared → Prop} (kin : K.In s.heap) (c : XCl K C N bm ini) (tl : XTl K bm) (he : s.heap.get? ea = some oe) (hc : oe.cls = .ref C) (hd : oe.data = .fields vs) (hz : 0 < vs.size)
   (k : ∀ h' t, (∀ b o, b ≠ ea → s.heap.get? b = some o → h'.get? b = some o) → h'.get? ea = some (oe.mapFields (·.setIfInBounds 0 (.ref t))) → Q .none { s with heap := h' }) :
   wpAny (model P w) A (call (.builtin "ValueError.__init__") [.ref ea, v]) Q E s := by
 obtain ⟨nm, q, bs, hdct, sn, sub, ab, col, dd, k0, k1, k2, k3, k5, lc⟩ := c.obj kin
 have VE := PySem.F.excBase_ValueError
 obtain ⟨h, g, dr, tk, os⟩ := s
 refine wpAny_call (codeAny_call_builtin VE.init.plain VE.initEntry (wpAny_check_init_subU VE (tl.tail kin) lc he hc ?_))
 wp_walk
 obtain ⟨x0, hx0⟩ : ∃ x0, vs[0]? = some x0 := ⟨vs[0], Array.getElem?_eq_getElem hz⟩
 have he1 : (h.push { cls := .type "tuple", data := .seq #[v] }).get? ea = some oe := Heap.get?_push_of_some _ he
 have fin := k ((h.push { cls := .type "tuple", data := .seq #[v] }).update ea (Obj.mapFields (·.setIfInBounds 0 (.ref h.objs.size)))) h.objs.size (fun b o hb q => (Heap.get?_update_other _ _ (Ne.symm hb)).trans (Heap.get?_push_of_some _ q))
   (Heap.get?_update_self _ he1 (Obj.isFreed_of_fields (Obj.data_mapFields hd _)))
 rw [hd]
 refine wpAny_pure ?_
 rw [hx0]
 refine wpAny_pure (wpAny_bind (wpAny_setField he1 hd hz ?_))
 cases x0 <;> (wp_walk; exact fin)
theorem raise_made {M : Model} {s : Shared} {env : Env} {ex : Expr} {pos : Pos} {ini : Option Value} {Q : Flow → Shared → Prop} (c : XCl K C N bm ini) (tl : XTl K bm) (hh : A.handled = none)
   (h : wpAny M A (eval ex env) (fun v s1 => ∃ e oe vs, v = .ref e ∧ K.In s1.heap ∧ s1.heap.get? e = some oe ∧ oe.cls = .ref C ∧ oe.data = .fields vs ∧ vs[1]? = some .none ∧ E (.ref e) s1) E s) :
   wpAny M A (exec (.Raise (some ex) none pos) env) Q E s := by
 have bc : (Value.ref C :: bm).contains (.type "BaseException") = true := by rw [List.contains_cons, tl.base, Bool.or_true]
 rw [arm_exec_Raise]
 refine wpAny_bind (wpAny_standAt ?_)
 show wpAny M A (raiseStmt env (some _) none) Q E s
 unfold raiseStmt
 refine wpAny_bind (wpAny_bind (wpAny_mono h (fun v s1 h1 => ?_) fun _ _ z => z))
 obtain ⟨e, oe, vs, rfl, kin, he, hc, hd, h1, hE⟩ := h1
 refine wpAny_bind (wpAny_standAt (wpAny_pure ?_))
 obtain ⟨nm, q, bs, hdct, sn, sub, ab, col, dd, k0, k1, k2, k3, k5, lc⟩ := c.obj kin
 obtain ⟨hp, g, dr, tk, os⟩ := s1
 repeat (first | (with_reducible refine wpAny_loadPart_at he ?_; rw [hc]) | with_reducible refine wpAny_loadPart_at lc ?_ | (with_reducible refine wpAny_isSubtype_exc lc ?_; rw [bc]) | with_reducible refine wpAny_field he hd h1 ?_ | wp_step)
 exact wpAny_raiseNew_none hh hE
end
end L2

set_option Elab.async false
set_option linter.all false
set_option maxRecDepth 100000
set_option maxHeartbeats 1000000
namespace L2
open PySem PySem.Spec PyProof.Rows PySem.Builtin PySem.Builtin.ObjectAttr
def xmO (e : Addr) (C : Value) (od : Option Addr) : HO := .ext fun h => ∃ o vs, h.get? e = some o ∧ o.cls = C ∧ o.dict = od ∧ o.data = .fields vs ∧ vs[1]? = some .none ∧ vs[2]? = some .none
theorem xm_ok {P : Program} {w : World} {H : Hp} {h : Heap} {e : Addr} {C : Value} {od : Option Addr} (x : ∃ o vs, h.get? e = some o ∧ o.cls = C ∧ o.dict = od ∧ o.data = .fields vs ∧ vs[1]? = some .none ∧ vs[2]? = some .none) : ObjOk P w H h e (xmO e C od) :=
 ⟨x, (let ⟨o, _, q, _⟩ := x; ⟨o, q⟩), fun _ _ ⟨o, vs, q, r⟩ k => ⟨o, vs, k o q, r⟩⟩
def xdO (d : Addr) (fs : List (Str × V)) : HO := .ext fun h => ∃ mA, h.Ns1 d mA ∧ (∀ g, RelO (fs.lookup g) (mA g)) ∧ PySem.Within mA (fs.map (·.1))
theorem xd_ok {P : Program} {w : World} {H : Hp} {h : Heap} {d : Addr} {fs : List (Str × V)} (x : ∃ mA, h.Ns1 d mA ∧ (∀ g, RelO (fs.lookup g) (mA g)) ∧ PySem.Within mA (fs.map (·.1))) : ObjOk P w H h d (xdO d fs) :=
 ⟨x, (let ⟨_, ⟨o, _, _, q, _⟩, _⟩ := x; ⟨o, q⟩), fun _ _ ⟨m, n, r⟩ k => ⟨m, n.at k, r⟩⟩
def del (H : Hp) (a : Addr) : Hp := fun b => if b = a then none else H b
theorem del_same {H : Hp} {a : Addr} : del H a a = none := if_pos rfl
theorem del_ne {H : Hp} {a b : Addr} (h : b ≠ a) : del H a b = H b := if_neg h
theorem upd_id {H : Hp} {a : Addr} {o : HO} (h : H a = some o) : upd H a o = H := by
 funext b
 unfold upd
 split
 · rename_i z; rw [z, h]
 · rfl
section
variable {X : Cx} {pins : List (Addr × Obj)} {σ : St} {H : Hp} {s : Shared} {a : Addr} {φ : Heap → Prop}
theorem Inv.untrack (I : Inv X pins σ H s) (e : H a = some (.ext φ)) : Inv X pins σ (del H a) s := by
 have nn : ∀ b, H b = none → del H a b = none := fun b z => by unfold del; split <;> first | rfl | exact z
 have nx : ∀ b u, H b = some u → (∀ ψ, u ≠ .ext ψ) → del H a b = some u := fun b u z k => by
   rw [del_ne]
   · exact z
   · rintro rfl; rw [e] at z; cases z; exact k φ rfl
 refine ⟨I.ok, I.os, I.bare, ⟨I.base.keep, I.base.slot, fun b u q n hx => nn b (I.base.free b u q n hx), I.base.there, fun b xs q => nx b _ (I.base.tups b xs q) (fun _ z => nomatch z), fun b u v q => nx b _ (I.base.frzs b u v q) (fun _ z => nomatch z), fun b ps q => ?_⟩, I.loc, I.cell, nn _ I.free, fun x c q => nn _ (I.freeC x c q), fun p hp => ?_, fun b u q => ?_, I.len⟩
 · obtain ⟨more, z⟩ := I.base.tbls b ps q
   exact ⟨more, nx b _ z (fun _ z => nomatch z)⟩
 · obtain ⟨e1, n1, r⟩ := I.pin p hp
   exact ⟨e1, nn _ n1, r⟩
 · by_cases hb : b = a
   · subst hb; rw [del_same] at q; cases q
   · rw [del_ne hb] at q
     exact (I.hok b u q).stay (fun c v _ z => z) (fun c z => nx c _ z (fun _ y => nomatch y)) fun c xs z => nx c _ z (fun _ y => nomatch y)
end
def FmtV (v : V) : Prop := (∃ a : Int, v = .int a ∧ a.natAbs.log2 < 1920) ∨ ∃ x : Str, v = .str x ∧ x.length ≤ 2000
section
variable {X : Cx} {e : Expr} {te : TE} {pos : Pos}
def tFmt (te : TE) : TE := fun σ H Q => te σ H fun v H1 => FmtV v ∧ ∀ z : Str, z.length ≤ 2000 → Q (.str z) H1
theorem pe_fmt (he : PE X e te) : PE X (.FormattedValue e (-1) none pos) (tFmt te) := by
 intro pins s σ H Q I h
 refine wpAny_FormattedValue_plain (thn (he pins s σ H _ I h) fun u s1 ⟨v, H1, I1, r, f, q⟩ => ?_)
 rcases f with ⟨a, rfl, ha⟩ | ⟨x, rfl, hx⟩
 · obtain ⟨t, rfl⟩ := (show ∃ t, u = Value.int a t from r)
   exact wpAny_formatField_int ha ⟨.str (Str.ofString (toString a)), H1, I1.tok _, ⟨_, rfl⟩, q _ (Nat.le_trans (int_text_len_1921 ha) (by decide))⟩
 · obtain ⟨t, rfl⟩ := (show ∃ t, u = Value.str x t from r)
   exact wpAny_formatField_str ⟨.str x, H1, I1, ⟨_, rfl⟩, q _ hx⟩ ⟨.str x, H1, I1.tok _, ⟨_, rfl⟩, q _ hx⟩ (Nat.le_trans hx (by decide))
abbrev TJ := St → Hp → (Hp → Prop) → Prop
def PJ (X : Cx) (parts : List Expr) (t : TJ) : Prop := ∀ (pins : List (Addr × Obj)) (s : Shared) (σ : St) (H : Hp) (out : Str) (Q : Hp → Prop), Inv X pins σ H s → t σ H Q → out.length + 2000 * parts.length ≤ 100000 →
 wpAny (model X.prog X.w) X.A (joinParts out (evalEach parts X.env)) (fun u s' => ∃ z H', RelV (.str z) u ∧ Inv X pins σ H' s' ∧ Q H') X.xe s
theorem pj_nil : PJ X [] (fun _ H Q => Q H) := fun pins s σ H out Q I h hl => joinParts_nil ⟨out, H, ⟨_, rfl⟩, I.tok _, h⟩ (Nat.le_trans (show out.length ≤ 100000 by simp at hl; exact hl) (by decide))
theorem pj_cons {rest : List Expr} {t : TJ} (he : PE X e te) (hr : PJ X rest t) (hs : evalEach (e :: rest) X.env = eval e X.env :: evalEach rest X.env := by rfl) : PJ X (e :: rest) (fun σ H Q => te σ H fun v H1 => ∃ y : Str, v = .str y ∧ y.length ≤ 2000 ∧ t σ H1 Q) := by
 intro pins s σ H out Q I h hl
 rw [hs]
 refine joinParts_cons (thn (he pins s σ H _ I h) fun u s1 ⟨v, H1, I1, r, y, ev, hy, q⟩ => ?_)
 subst ev
 obtain ⟨t, rfl⟩ := (show ∃ t, u = Value.str y t from r)
 have el : (out ++ y).length = out.length + y.length := Str.length_append ..
 rw [List.length_cons] at hl
 exact ⟨Nat.le_trans (show (out ++ y).length ≤ 100000 by omega) (by decide), hr pins s1 σ H1 (out ++ y) Q I1 q (by omega)⟩
theorem pe_joined {v1 v2 : Expr} {rest : List Expr} {t : TJ} (h : PJ X (v1 :: v2 :: rest) t) (hn : 2000 * (v1 :: v2 :: rest).length ≤ 100000 := by decide) : PE X (.JoinedStr (v1 :: v2 :: rest) pos) (fun σ H Q => t σ H fun H' => ∀ z : Str, Q (.str z) H') := by
 intro pins s σ H Q I hq
 refine JoinedStr_many ?_
 exact thn (h pins s σ H Str.empty _ I hq (by show 0 + _ ≤ _; omega)) fun u s1 ⟨z, H1, r, I1, q⟩ => ⟨.str z, H1, I1, r, q z⟩
end

section
variable {X : Cx} {C N D fI : Addr} {bm : List Value} {ini : Option Value} {x f : Str} {np ap pos cpos pos' : Pos} {e o value a1 a2 : Expr} {es : List Expr} {t : TA} {ta tv te : TE}
structure XIn (K : PySem.W.Frag) (D : Addr) : Prop where
 sp : PySem.W.specialIn K (.ref D) "__getattribute__" = some (some (.builtin "type.__getattribute__"))
 rd : PySem.W.readsIn K D (.type "type") = true
 fc : PySem.W.findCls K (.ref D) (.type "type") "__init__" = some (.val (.builtin "ValueError.__init__"))
def tXinit (C : Addr) (t : TA) : TE := fun σ H Q => t σ H fun vs H1 => ∃ ea od z, vs = [.ref ea, z] ∧ H1 ea = some (xmO ea (.ref C) od) ∧ Q .non H1
theorem pe_xinit {pl : Sem Bool} (hg : Gl X x) (hm : X.mg x = some (.ref D)) (i : XIn X.K D) (c : XCl X.K C N bm ini) (tl : XTl X.K bm) (ha : PA X [a1, a2] t) (hdb : (x == ("__debug__" : Str)) = false := by decide)
   (hst : starEach [a1, a2] X.env = (false, eval a1 X.env) :: starEach [a2] X.env := by rfl) (hpl : (backTo pos (starEach [a2] X.env)).any (·.1) = false := by rfl)
   (ht : eval (.Call (.Attribute (.Name x np) "__init__" ap) [a1, a2] [] pos) X.env = (do
     let ov ← eval (.Name x np) X.env
     standAt ap.atName
     let (f, first) ← holding [ov] (getMethod ov "__init__" pl)
     callWith pos f first (backTo pos (starEach [a1, a2] X.env)) (backToKw pos (keywordEach [] X.env))) := by rfl) :
   PE X (.Call (.Attribute (.Name x np) "__init__" ap) [a1, a2] [] pos) (tXinit C t) := by
 intro pins s σ H Q I h
 refine PySem.W.methodCall_KW (pl := pl) (ld_glob I hg hm ?_ hdb) ht
 refine PySem.W.method_cls I.kIn i.sp (PySem.W.cls_value I.kIn i.rd i.fc (by decide +kernel) ?_)
 have I0 := I.tok (s.toks + 1)
 refine PyProof.Rows.callWith_builtin1 (thn (ha pos pins _ σ H _ I0 h) fun us s1 ⟨vs, H1, I1, r, ea, od, z, ev, hea, q⟩ => ?_) hst hpl
 subst ev
 obtain ⟨⟨oe, ws, he, hc, hdi, hd, h1⟩, _⟩ := I1.hok ea _ hea
 cases r with
 | cons r1 r' =>
   cases r' with
   | cons r2 r'' =>
     cases r''
     obtain rfl := (show _ = Value.ref ea from r1)
     have hz := (Array.getElem?_eq_some_iff.mp h1.1).1
     refine exc_init I1.kIn c tl he hc hd (by omega) fun h' ta kp he' => ?_
     have W := I1.write (x := ea) (e := ea) (o := xmO ea (.ref C) od) (h' := h') (t' := s1.toks) (by rw [hea]; exact True.intro) (.inl rfl) kp ⟨_, he'⟩ (xm_ok ⟨_, _, he', (mapF_cls _ _).trans hc, (mapF_dict _ _).trans hdi, Obj.data_mapFields hd _, by rw [Array.getElem?_setIfInBounds_ne (by decide)]; exact h1.1, by rw [Array.getElem?_setIfInBounds_ne (by decide)]; exact h1.2⟩)
     rw [upd_id hea] at W
     exact ⟨.non, H1, W, rfl, q⟩
def sXfld1 (C : Addr) (ta tv : TE) (f : Str) : TS := fun D σ H => tv σ H fun y H1 => ta σ H1 fun x H2 => ∃ ea, x = .ref ea ∧ H2 ea = some (xmO ea (.ref C) none) ∧ ∀ d, H2 d = none → D.nx σ (upd (upd H2 ea (xmO ea (.ref C) (some d))) d (xdO d [(f, y)]))
theorem ps_xfld1 (hex : X.ex = []) (c : XCl X.K C N bm ini) (tl : XTl X.K bm) (a : XAt X.K C f) (ha : PE X o ta) (hv : PE X value tv) (hs : swapsWith value (some (.Attribute o f pos')) pos.line X.env = pure false) : PS X (.Assign [.Attribute o f pos'] value pos) (sXfld1 C ta tv f) := by
 intro pins s σ H D I h
 refine plainObj_wpAny_Assign_Attribute (thn (hv pins s σ H _ I h) fun u s1 ⟨y, H1, I1, ry, q⟩ => thn (ha pins s1 σ H1 _ I1 q) fun ov s2 ⟨x, H2, I2, rx, ea, ex, hea, q2⟩ => ?_) hs
 subst ex
 obtain rfl : ov = Value.ref ea := rx
 obtain ⟨⟨oe, ws, he, hc, hdi, hd, h1⟩, _⟩ := I2.hok ea _ hea
 refine exc_set1 I2.kIn c tl a he hc hdi hd fun h' tk x1 n1 kp => ?_
 have nd : H2 s2.heap.objs.size = none := I2.hok.fresh (Nat.le_refl _)
 have W := I2.write (x := ea) (e := ea) (o := xmO ea (.ref C) (some s2.heap.objs.size)) (h' := h') (t' := tk) (by rw [hea]; exact True.intro) (.inl rfl) kp ⟨_, x1⟩ (xm_ok ⟨_, _, x1, hc, rfl, hd, h1⟩)
 have ne : s2.heap.objs.size ≠ ea := fun z => by rw [z, hea] at nd; cases nd
 have T := I2.track W (a := s2.heap.objs.size) (o := xdO s2.heap.objs.size [(f, y)]) hex (by rw [upd_ne ne]; exact nd) (Heap.get?_none_of_le (Nat.le_refl _)) (xd_ok ⟨_, n1, fun g => ?_, fun g hg => ?_⟩)
 · exact ⟨σ, _, T, q2 _ nd⟩
 · show RelO (List.lookup g [(f, y)]) (if g = f then some u else none)
   by_cases z : g = f
   · subst z; simp [List.lookup]; exact ry
   · rw [if_neg z]; simp [List.lookup, beq_false_of_ne z]; exact True.intro
 · by_cases z : g = f
   · rw [z]; exact List.mem_singleton.mpr rfl
   · exact absurd (if_neg z) hg
def sXfld2 (C : Addr) (ta tv : TE) (f : Str) : TS := fun D σ H => tv σ H fun y H1 => ta σ H1 fun x H2 => ∃ ea d fs, x = .ref ea ∧ H2 ea = some (xmO ea (.ref C) (some d)) ∧ H2 d = some (xdO d fs) ∧ fs.length < 1000 ∧ D.nx σ (upd H2 d (xdO d (putF f y fs)))
theorem ps_xfld2 (c : XCl X.K C N bm ini) (tl : XTl X.K bm) (a : XAt X.K C f) (ha : PE X o ta) (hv : PE X value tv) (hs : swapsWith value (some (.Attribute o f pos')) pos.line X.env = pure false) : PS X (.Assign [.Attribute o f pos'] value pos) (sXfld2 C ta tv f) := by
 intro pins s σ H D I h
 refine plainObj_wpAny_Assign_Attribute (thn (hv pins s σ H _ I h) fun u s1 ⟨y, H1, I1, ry, q⟩ => thn (ha pins s1 σ H1 _ I1 q) fun ov s2 ⟨x, H2, I2, rx, ea, d, fs, ex, hea, hed, hl, q2⟩ => ?_) hs
 subst ex
 obtain rfl : ov = Value.ref ea := rx
 obtain ⟨⟨oe, ws, he, hc, hdi, hd, h1⟩, _⟩ := I2.hok ea _ hea
 obtain ⟨⟨mA, hn, r, wi⟩, _⟩ := I2.hok d _ hed
 have hz : (fs.map (·.1)).length ≤ sizeLine := by rw [List.length_map, sizeLine_eq]; omega
 refine exc_set2 I2.kIn c tl a he hc hdi hd hn wi hz fun h' tk n1 sb => ?_
 have heo : ∃ o, h'.get? d = some o := let ⟨o, _, _, e', _⟩ := n1; ⟨o, e'⟩
 have W := I2.write (x := d) (e := d) (o := xdO d (putF f y fs)) (h' := h') (t' := tk) (by rw [hed]; exact True.intro) (.inl rfl) (fun b q hb z => (sb.2 b hb).trans z) heo (xd_ok ⟨_, n1, fun g => ?_, fun g hg => ?_⟩)
 · exact ⟨σ, _, W, q2⟩
 · show RelO ((putF f y fs).lookup g) (if g = f then some u else mA g)
   rw [lookup_putF]
   by_cases q : g = f
   · rw [if_pos q, if_pos q]; exact ry
   · rw [if_neg q, if_neg q]; exact r g
 · by_cases q : g = f
   · rw [q]; exact (keys_putF f y fs).1
   · refine (keys_putF f y fs).2 g (wi g fun z => hg ?_)
     show (if g = f then some u else mA g) = none
     rw [if_neg q]; exact z
def tXget (C : Addr) (te : TE) (f : Str) : TE := fun σ H Q => te σ H fun x H1 => ∃ ea d fs v, x = .ref ea ∧ H1 ea = some (xcO ea (.ref C) (some d)) ∧ H1 d = some (xdO d fs) ∧ fs.lookup f = some v ∧ Q v H1
theorem pe_xget (c : XCl X.K C N bm ini) (tl : XTl X.K bm) (a : XAt X.K C f) (he : PE X e te) (hb : attributeBase e f X.env (eval e X.env) = eval e X.env) : PE X (.Attribute e f pos) (tXget C te f) := by
 intro pins s σ H Q I h
 refine attr_of hb (thn (he pins s σ H _ I h) fun u s1 ⟨x, H1, I1, rx, ea, d, fs, v, ex, hea, hed, l, q⟩ => ?_)
 subst ex
 obtain rfl : u = Value.ref ea := rx
 obtain ⟨⟨oe, ws, he, hc, hdi, hd, _⟩, _⟩ := I1.hok ea _ hea
 obtain ⟨⟨mA, hn, r, wi⟩, _⟩ := I1.hok d _ hed
 obtain ⟨u, hu, ru⟩ := RelO.some_of (v := v) (o := mA f) (by rw [← l]; exact r f)
 exact exc_get I1.kIn c tl a he hc hdi hd hn hu (handed_of ru) ⟨v, H1, I1.tok _, ru, q⟩
end

section
variable {P : Program} {w : World} {K : PySem.W.Frag} {mg : Str → Option Value} {base : Heap} {N0 : List Str} {qual : Str} {scope : Scope} {f : Addr} {cd : Value} {A : Around} {outer : List Env} {s0 : Shared} {H0 : Hp} {E : XK}
def tRaiseI (E : XK) (C : Addr) (sp : Sp) (t : TA) : TS := fun _ σ H => t σ H fun vs H1 => vs.length ≤ sizeLine ∧ ∀ ea, H1 ea = none →
 sp (.ref ea :: vs) (upd H1 ea (xmO ea (.ref C) none)) (fun v H2 => v = .non ∧ ∃ od, H2 ea = some (xmO ea (.ref C) od) ∧ E (.ref C) od (del H2 ea)) E0
theorem ps_raiseI {X : Cx} (hX : X = cxOf (CXe P w) P w K mg base N0 qual scope f cd A outer s0 H0 E) {C N fI : Addr} {bm : List Value} {x : Str} {np cpos pos : Pos} {e : Expr} {es : List Expr} {t : TA} {k : Nat} {fd : FuncData} {ps : List Str} {sp : Sp} {oI : Obj}
   (c : XCl K C N bm (some (.ref fI))) (tl : XTl K bm) (lf : K.lookup fI = some oI) (cf : oI.cls = .type "function") (F : FnOk P w K mg base CX0 k fI fd ps sp) (hr : Room (k + 1) X.A) (hb : Binds K fd ps []) (hk : PySem.W.keepIn K (.ref C) = true)
   (hg : Gl X x) (hm : mg x = some (.ref C)) (ha : PA X (e :: es) t) (hdb : (x == ("__debug__" : Str)) = false := by decide) (he : starEach (e :: es) X.env = (false, eval e X.env) :: starEach es X.env := by rfl)
   (hpl : (backTo cpos (starEach es X.env)).any (·.1) = false := by rfl) : PS X (.Raise (some (.Call (.Name x np) (e :: es) [] cpos)) none pos) (tRaiseI E C sp t) := by
 intro pins s σ H D I h
 have hx : X.xe = fun (e : Value) (s' : Shared) => wpAny (model X.prog X.w) X.A (leaving X.env e) (fun _ s'' => CXe X.prog X.w X.outer X.H₀ X.s₀ E e s'') (fun e' s'' => CXe X.prog X.w X.outer X.H₀ X.s₀ E e' s'') s' := by subst hX; rfl
 have hst : X.stack = X.env :: X.outer := by subst hX; rfl
 have hfm : X.env.frame = some X.env.locals := by subst hX; rfl
 have hex : X.ex = [] := by subst hX; rfl
 have hmg : X.mg x = some (.ref C) := by subst hX; exact hm
 have hcm : X.calm = true := by subst hX; rfl
 have hK : X.K = K := by subst hX; rfl
 have F' : FnOk X.prog X.w X.K X.mg X.base CX0 k fI fd ps sp := by subst hX; exact F
 refine raise_made (K := K) c tl (I.ok.hd hcm) (wpAny_Call_Name_kw (ld_glob I hg hmg ?_ hdb))
 refine PySem.W.callWith_K (K := X.K) (h₀ := X.base) I.ok.mod.kin (by rw [hK]; exact hk) (thn (ha cpos pins s σ H _ I h) fun us s1 ⟨vs, H1, I1, r, hl, q⟩ => ⟨I1.kIn, ?_⟩) he hpl
 have kin : K.In s1.heap := by rw [← hK]; exact I1.kIn
 refine exc_made kin c tl (kin _ _ lf) cf (fun h' ea md => ?_) (by show us.length ≤ sizeLine; rw [← r.length]; exact hl)
 obtain ⟨tt, q1, _, _⟩ := md.there
 have nea : H1 ea = none := I1.hok.none md.new
 have I2 := I1.kept (t' := s1.toks) (h' := h') md.keeps
 have I3 := I1.track I2 (a := ea) (o := xmO ea (.ref C) none) hex nea md.new (xm_ok ⟨_, _, q1, rfl, rfl, rfl, rfl, rfl⟩)
 have hq := q ea nea
 have r2 : Vals (V.ref ea :: vs) (Value.ref ea :: us) := .cons rfl r
 have hlen : (Value.ref ea :: us ++ []).length = ps.length := by rw [List.append_nil, ← r2.length]; exact F'.len _ _ _ _ hq
 have hb' := hb { s1 with heap := h' } (Value.ref ea :: us) (by rw [← hK]; exact I3.kIn) hlen
 rw [List.append_nil] at hb'
 refine wpAny_call (codeAny_mono (F'.run _ X.stack _ _ ⟨Value.ref ea :: us, []⟩ (Value.ref ea :: us) _ _ E0 (hr.make C us []) (I3.env0.make C us []) hb' r2 hq) fun rr s' hq' => ?_)
 cases rr with
 | error e => exact hq'.elim
 | ok fl =>
   cases fl with
   | next => exact hq'.elim
   | brk => exact hq'.elim
   | cont => exact hq'.elim
   | ret u =>
     obtain ⟨v, H', os, bare, un, hok, rv, ev, od, hea, hE⟩ := hq'
     subst ev
     have J := I3.call' os un hok bare (fun b z => nomatch z)
     obtain ⟨⟨oe, ws, he2, hc2, hdi2, hd2, h12⟩, _⟩ := J.hok ea _ hea
     refine ⟨rv, ea, oe, ws, rfl, by rw [← hK]; exact J.kIn, he2, hc2, hd2, h12.1, ?_⟩
     rw [hx]
     exact leaveX (fl := none) hst hfm hex I1 (J.untrack hea) (fun b o z => un.there b o (md.keeps b o z) (by simp)) ⟨del_same, md.new, oe, ws, he2, hc2, hdi2, hd2, h12⟩ (.inl rfl) hE
end
end L2

set_option Elab.async false
set_option linter.all false
set_option maxRecDepth 100000
set_option maxHeartbeats 1000000
namespace L2
open PySem PySem.Spec PyProof.Rows PySem.Builtin PySem.Builtin.ObjectAttr
section
variable {P : Program} {w : World} {A : Around} {E : Value → Shared → Prop} {s : Shared} {K : PySem.W.Frag} {C N x : Addr} {bm : List Value} {ini : Option Value} {f : Str} {v : Value} {ox : Obj} {vs : Array Value}
end
section
variable {X : Cx} {K : PySem.W.Frag}
end
section
variable {X : Cx} {C N fI : Addr} {bm : List Value} {x : Str} {np cpos : Pos} {e : Expr} {es : List Expr} {t : TA}
end
section
variable {K : PySem.W.Frag} {C D N N' : Addr} {bm bm' : List Value} {ini ini' : Option Value} {b : Bool}
theorem XCl.kind (c : XCl K C N bm ini) : (PySem.W.clsIn K C).isSome = true ∧ PySem.W.typeIn K (.ref C) = some (.type "type") := by
 obtain ⟨nm, q, bs, hdct, sn, sub, ab, col, dd, k0, k1, k2, k3, k5, lc⟩ := c.ob
 constructor
 · unfold PySem.W.clsIn; rw [lc]; rfl
 · show (K.lookup C).map (·.cls) = _; rw [lc]; rfl
theorem XCl.self (c : XCl K C N bm ini) : PySem.W.mroIn K C (.ref C) = some true := by
 obtain ⟨nm, q, bs, hdct, sn, sub, ab, col, dd, k0, k1, k2, k3, k5, lc⟩ := c.ob
 unfold PySem.W.mroIn PySem.W.clsIn
 rw [lc]
 show (if (Value.ref C :: bm).isEmpty = true then none else some ((Value.ref C :: bm).contains (.ref C))) = some true
 simp
end
end L2

set_option Elab.async false
set_option linter.all false
set_option maxRecDepth 100000
set_option maxHeartbeats 1000000
namespace L2
open PySem PySem.Spec PyProof.Rows PySem.Builtin
section
variable {prog : Program} {w : World} {A : Around} {E : Value → Shared → Prop} {s : Shared} {α : Type}
end
end L2

set_option Elab.async false
set_option linter.all false
set_option maxRecDepth 100000
set_option maxHeartbeats 4000000
namespace L2
open PySem PySem.Spec PyProof.Rows
section
variable {X : Cx} {tg : Expr} {ea : Addr}
end
section
variable {X : Cx} {elt tg iter : Expr} {ifs : List Expr} {scope : Scope} {pos : Pos} {N : List Str} {nv : Nat} {js : List Nat} {wi : TI} {g : TG} {tt : TT} {te : TE}
end
end L2

set_option Elab.async false
set_option linter.all false
set_option maxRecDepth 100000
set_option maxHeartbeats 4000000
namespace L2
open PySem PySem.Spec PyProof.Rows
end L2

set_option Elab.async false
set_option linter.all false
set_option maxRecDepth 100000
set_option maxHeartbeats 1000000
namespace L2
open PySem PySem.Spec PyProof.Rows
structure RoomM (k : Nat) (A : Around) : Prop where
 dp : A.depth + 3 * k + 5 < recursionLimit
 un : A.units + 16 * k + 200 < cLine
theorem Room.m {k : Nat} {A : Around} (r : Room k A) : RoomM k A := ⟨r.dp, r.un⟩
theorem RoomM.mark {k : Nat} {A : Around} (r : RoomM k A) (h : Option Value) : RoomM k (A.mark h) := ⟨r.dp, r.un⟩
theorem RoomM.mono {j k : Nat} {A : Around} (r : RoomM k A) (h : j ≤ k) : RoomM j A := ⟨by have := r.dp; omega, by have := r.un; omega⟩
theorem RoomM.deeper {k : Nat} {A : Around} (r : RoomM (k + 1) A) (env : Env) : RoomM k (A.deeper env) :=
 ⟨by have := r.dp; show A.depth + 1 + 3 * k + 5 < _; omega, by have := r.un; show A.units + 3 + 16 * k + 200 < _; omega⟩
theorem RoomM.units0 {k : Nat} {A : Around} (r : RoomM k A) : A.units < cLine := by have := r.un; omega
theorem RoomM.hu {k : Nat} {A : Around} (r : RoomM k A) : A.units + 1 < cLine := by have := r.un; omega
section
variable {P : Program} {w : World} {K : PySem.W.Frag} {mg : Str → Option Value} {base : Heap}
theorem FunD.okE {x qual : Str} {st : Stmt} {f : Addr} {fd : FuncData} {dV : Value} {N ps : List Str} {k : Nat} {sp : Sp} (F : FunD K x qual st f fd dV) (S : FnScope N ps (defScope st)) (len : ∀ vs H Q E, sp vs H Q E → vs.length = ps.length)
   (hbody : ∀ (cdv : Value) (A : Around) (outer : List Env) (s : Shared) (H : Hp) (vs : List V) (Q : VK) (E : XK), Room k (A.deeper (envOfC qual (defScope st) s.heap.objs.size f cdv)) → sp vs H Q E →
     ∃ t, PSs (cxOf (CXe P w) P w K mg base N qual (defScope st) f cdv A outer s H E) (defBody st) t ∧ t { nx := fun _ H' => Q .non H', rt := Q } (start N vs) H) : FnOk P w K mg base (CXe P w) (k + 1) f fd ps sp := by
 obtain ⟨oc, od, kV, doc, pm, an, cdv, ct, osl, rfl, lk, hcd⟩ := F.ex
 exact fn_of lk hcd S len fun A outer s H vs Q E hr hsp => hbody cdv A outer s H vs Q E hr hsp
end
section
variable {X : Cx} {k : Nat} {f : Addr} {fd : FuncData} {ps : List Str} {sp : Sp} {x : Str} {p pos : Pos} {e : Expr} {es : List Expr} {t : TA}
end
end L2

set_option Elab.async false
set_option linter.all false
set_option maxRecDepth 100000
set_option maxHeartbeats 4000000
namespace My
open PySem L2
def top (i : Nat) : Stmt := PySem.Challenge.pw_dialecthall_k45_whole_cells_apart.main.body.getD i (.Pass ⟨0, 0, 0, 0⟩)
abbrev s_is_printable : Stmt := top 10
abbrev s_has_signs_alone : Stmt := top 11
abbrev s_are_unlike_signs : Stmt := top 28
abbrev s_Dialect___init__ : Stmt := inClass (top 29) 0
abbrev s_Dialect_told : Stmt := inClass (top 29) 1
abbrev s_dialect_of : Stmt := top 30
abbrev s_step_at_beginning : Stmt := top 32
abbrev s_step_in_plain : Stmt := top 33
abbrev s_step_within : Stmt := top 34
abbrev s_step_behind : Stmt := top 35
abbrev s_step_in_doubt : Stmt := top 36
abbrev s_step_freed : Stmt := top 37
abbrev s_Turn___init__ : Stmt := inClass (top 38) 0
abbrev s_Turn_step : Stmt := inClass (top 38) 1
abbrev s_once : Stmt := top 16
abbrev s_Dialect_special : Stmt := inClass (top 29) 2
abbrev s_is_live : Stmt := top 19
abbrev s_Turn_live_step : Stmt := inClass (top 38) 2
abbrev s_count_behind : Stmt := top 26
abbrev s_Marker___init__ : Stmt := inClass (top 40) 0
abbrev s_Marker_mark_behind : Stmt := inClass (top 40) 1
abbrev s_Marker_has_read_all : Stmt := inClass (top 40) 2
abbrev s_Writer___init__ : Stmt := inClass (top 45) 0
abbrev s_Writer_leads : Stmt := inClass (top 45) 1
abbrev s_Writer_is_good : Stmt := inClass (top 45) 2
abbrev s_search : Stmt := top 42
abbrev s_text_to : Stmt := top 43
abbrev s_is_cell : Stmt := top 12
abbrev s_is_row : Stmt := top 13
abbrev s_signs_in_row : Stmt := top 14
abbrev s_is_table : Stmt := top 15
abbrev s_check_table : Stmt := top 24
abbrev s_tokens_of_row : Stmt := top 23
abbrev s_tokens_of : Stmt := top 25
abbrev s_cell_at : Stmt := top 46
abbrev s_NoWriting___init__ : Stmt := inClass (top 4) 0
abbrev s_shortest : Stmt := top 47
abbrev s__law_cell_at : Stmt := top 49
abbrev s__law_mixed : Stmt := top 50
abbrev s__law_number : Stmt := top 51
abbrev s__law_some : Stmt := top 52
abbrev s__law_menus : Stmt := top 53
abbrev s__law_told : Stmt := top 54
abbrev s__law_made : Stmt := top 55
abbrev s__law_row : Stmt := top 56
abbrev s__law_written : Stmt := top 57
abbrev s__law_first : Stmt := top 58
abbrev s__law_right : Stmt := top 59
abbrev s_law : Stmt := top 60

theorem same_new {H : Hp} {l : Addr} {o : HO} (h : H l = none) : Same H (upd H l o) := fun b u e => by rw [upd_ne (ne_of_none e h)]; exact e
theorem same_set {H H2 : Hp} {l : Addr} {o : HO} (h : H l = none) (s : Same H H2) : Same H (upd H2 l o) := fun b u e => by rw [upd_ne (ne_of_none e h)]; exact s b u e
theorem gyes {i : Nat} {x : V} {σ : St} {H : Hp} {A B : St → Hp → Prop} (h : A (σ.set i (some x)) H) : gName i x σ H (fun τ2 H2 => tYes τ2 H2 fun b H3 => if b = true then A τ2 H3 else B τ2 H3) := by
 show (if true = true then A (σ.set i (some x)) H else B (σ.set i (some x)) H)
 exact iteT h
theorem iteD {p A B : Prop} [Decidable p] (hp : p) (h : A) : if decide p = true then A else B := by rw [if_pos (decide_eq_true hp)]; exact h
theorem iteDn {p A B : Prop} [Decidable p] (hp : ¬ p) (h : B) : if decide p = true then A else B := by rw [if_neg (by simpa using hp)]; exact h
theorem iteNE {A B : Prop} {b : Bool} (hb : b = true) (h : B) : if (!b) = true then A else B := by rw [hb]; exact iteF h
theorem at_int {α : Type} {xs : List α} {i : Int} (h0 : 0 ≤ i) (h : i < xs.length) : ∃ c, atI xs i = some c ∧ c ∈ xs := by
 obtain ⟨j, rfl⟩ : ∃ j : Nat, i = j := ⟨i.toNat, by omega⟩
 have hj : j < xs.length := by omega
 exact ⟨xs[j], atI_nat (by simp [hj]), List.getElem_mem hj⟩
theorem take_snoc {l : List Nat} {i c : Nat} (h : l[i]? = some c) : l.take (i + 1) = l.take i ++ [c] := by
 rw [List.take_succ, h]; rfl
def Pn (c : Nat) : Prop := 32 ≤ c ∧ c ≤ 126 ∧ c ≠ 37
instance (c : Nat) : Decidable (Pn c) := by unfold Pn; exact inferInstance
structure Sg (z : Str) : Prop where
 nd : z.cps.toList.Nodup
 pr : ∀ c ∈ z.cps.toList, Pn c
def Mn (z : Str) : Prop := 0 < z.length ∧ z.length ≤ 100 ∧ ∀ c ∈ z.cps.toList, Pn c
instance (z : Str) : Decidable (Mn z) := by unfold Mn; exact inferInstance
structure Gd (p q f : Str) : Prop where
 gp : Sg p
 gq : Sg q
 gf : Sg f
 p1 : 1 ≤ p.length
 p3 : p.length ≤ 3
 q2 : q.length ≤ 2
 f2 : f.length ≤ 2
def seven (p q f : Str) (b1 b2 b3 b4 : Bool) : List V := [.str p, .str q, .str f, .bl b1, .bl b2, .bl b3, .bl b4]
def dfl (p q f : Str) (b1 b2 b3 b4 : Bool) : List (Str × V) := [("parts", .str p), ("quotes", .str q), ("frees", .str f), ("twin", .bl b1), ("wide", .bl b2), ("thin", .bl b3), ("stray", .bl b4)]
def away (t : Str) (c : Nat) : Bool := !(!(Builtin.Str.occurrences t (sg c) 0 t.length 1).isEmpty)
theorem away_iff (t : Str) (c : Nat) : away t c = true ↔ c ∉ t.cps.toList := by
 unfold away
 have e : (!(Builtin.Str.occurrences t (sg c) 0 t.length 1).isEmpty) = decide (c ∈ t.cps.toList) := StrLaws.found_one t c
 rw [e]
 simp
theorem sg_add {z : Str} {c : Nat} (h : Sg z) (hc : Pn c) (ha : away z c = true) : Sg (z ++ sg c) := by
 have e : (z ++ sg c).cps.toList = z.cps.toList ++ [c] := by
   show (z.cps ++ #[c]).toList = _
   simp
 have hn := (away_iff z c).mp ha
 refine ⟨?_, ?_⟩
 · rw [e, List.nodup_append]
   refine ⟨h.nd, by simp, fun a ha b hb => ?_⟩
   rw [List.mem_singleton.mp hb]
   intro q; exact hn (q ▸ ha)
 · rw [e]
   intro d hd
   rcases List.mem_append.mp hd with z' | z'
   · exact h.pr d z'
   · rw [List.mem_singleton.mp z']; exact hc
theorem sg_nil : Sg (Str.ofString "") := by
 have e : (Str.ofString "").cps.toList = [] := by decide +kernel
 refine ⟨?_, ?_⟩
 · rw [e]; exact List.nodup_nil
 · rw [e]; intro c hc; cases hc
theorem app_len (a b : Str) : (a ++ b).length = a.length + b.length := by
 show (a.cps ++ b.cps).size = _
 rw [Array.size_append]; rfl

theorem sqt_mono {K : PySem.W.Frag} {H H' : Hp} {a : Addr} {xs : List V} (e : Same H H') (h : SqT K H a xs) : SqT K H' a xs := by
 rcases h with (h | ⟨o, h⟩) | h
 · exact .inl (.inl (e _ _ h))
 · exact .inl (.inr ⟨o, e _ _ h⟩)
 · exact .inr h
theorem iteNf {A B : Prop} {b : Bool} (hb : b = false) (h : A) : if (!b) = true then A else B := by rw [hb]; exact iteT h
theorem iteBt {A B : Prop} {b : Bool} (hb : b = true) (h : A) : if b = true then A else B := by rw [hb]; exact iteT h
theorem iteBf {A B : Prop} {b : Bool} (hb : b = false) (h : B) : if b = true then A else B := by rw [hb]; exact iteF h
def inS (c : Nat) (z : Str) : Bool := !(Builtin.Str.occurrences z (sg c) 0 z.length 1).isEmpty
def isS (a b : Str) : Bool := decide (V.str a = V.str b)
theorem isS_eq {a b : Str} (h : isS a b = true) : a = b := by have := of_decide_eq_true h; cases this; rfl
theorem isS_self (a : Str) : isS a a = true := decide_eq_true rfl
inductive Res where
 | go (k w u : Str)
 | flt (w : Str)
def RelR (K : PySem.W.Frag) (H : Hp) (v : V) : Res → Prop
 | .go k w u => isS k (Str.ofString "fault") = false ∧ ∃ a b, v = .ref a ∧ SqT K H a [.str k, .ref b] ∧ SqT K H b [.str w, .str u]
 | .flt w => ∃ a, v = .ref a ∧ SqT K H a [.str (Str.ofString "fault"), .str w]
theorem RelR.mono {K : PySem.W.Frag} {H H' : Hp} {v : V} {r : Res} (e : Same H H') (h : RelR K H v r) : RelR K H' v r := by
 cases r with
 | go k w u => obtain ⟨hk, a, b, e1, e2, e3⟩ := h; exact ⟨hk, a, b, e1, sqt_mono e e2, sqt_mono e e3⟩
 | flt w => obtain ⟨a, e1, e2⟩ := h; exact ⟨a, e1, sqt_mono e e2⟩
theorem mk_go {K : PySem.W.Frag} {H : Hp} {Q : VK} {k w u : Str} {r : Res} (e : r = .go k w u) (hk : isS k (Str.ofString "fault") = false) (h : ∀ v H', Same H H' → RelR K H' v r → Q v H') :
   [V.str w, V.str u].length ≤ sizeLine ∧ ∀ b, H b = none → ([V.str k, V.ref b].length ≤ sizeLine ∧ ∀ a, (upd H b (.tup [.str w, .str u])) a = none → Q (.ref a) (upd (upd H b (.tup [.str w, .str u])) a (.tup [.str k, .ref b]))) := by
 refine ⟨(by show 2 ≤ sizeLine; decide), fun b hb => ⟨(by show 2 ≤ sizeLine; decide), fun a ha => ?_⟩⟩
 have s1 := same_new (o := HO.tup [.str w, .str u]) hb
 have s2 := same_new (o := HO.tup [.str k, .ref b]) ha
 refine h _ _ (s1.trans s2) ?_
 rw [e]
 exact ⟨hk, a, b, rfl, SqT.of upd_same, sqt_mono s2 (SqT.of upd_same)⟩
theorem mk_goR {K : PySem.W.Frag} {H H0 : Hp} {Q : VK} {k w u : Str} {r : Res} {b : Addr} (e : r = .go k w u) (hk : isS k (Str.ofString "fault") = false) (s0 : Same H0 H) (hb : SqT K H b [.str w, .str u]) (h : ∀ v H', Same H0 H' → RelR K H' v r → Q v H') :
   [V.str k, V.ref b].length ≤ sizeLine ∧ ∀ a, H a = none → Q (.ref a) (upd H a (.tup [.str k, .ref b])) := by
 refine ⟨(by show 2 ≤ sizeLine; decide), fun a ha => ?_⟩
 have s2 := same_new (o := HO.tup [.str k, .ref b]) ha
 refine h _ _ (s0.trans s2) ?_
 rw [e]
 exact ⟨hk, a, b, rfl, SqT.of upd_same, sqt_mono s2 hb⟩
theorem mk_flt {K : PySem.W.Frag} {H : Hp} {Q : VK} {w : Str} {r : Res} (e : r = .flt w) (h : ∀ v H', Same H H' → RelR K H' v r → Q v H') :
   [V.str (Str.ofString "fault"), V.str w].length ≤ sizeLine ∧ ∀ a, H a = none → Q (.ref a) (upd H a (.tup [.str (Str.ofString "fault"), .str w])) := by
 refine ⟨(by show 2 ≤ sizeLine; decide), fun a ha => ?_⟩
 have s2 := same_new (o := HO.tup [.str (Str.ofString "fault"), .str w]) ha
 refine h _ _ s2 ?_
 rw [e]
 exact ⟨a, rfl, SqT.of upd_same⟩
theorem kf_skip : isS (Str.ofString "skip") (Str.ofString "fault") = false := by decide +kernel
theorem kf_end : isS (Str.ofString "end") (Str.ofString "fault") = false := by decide +kernel
theorem kf_part : isS (Str.ofString "part") (Str.ofString "fault") = false := by decide +kernel
theorem kf_put : isS (Str.ofString "put") (Str.ofString "fault") = false := by decide +kernel
def mBegin (p q f : Str) (b3 : Bool) (w u : Str) (c : Nat) : Res :=
 if inS c f = true then .go (Str.ofString "skip") (Str.ofString "freed") (Str.ofString "") else
 if isS (sg c) (Str.ofString "\n") = true then .go (Str.ofString "end") (Str.ofString "row") (Str.ofString "") else
 if inS c q = true then .go (Str.ofString "skip") (Str.ofString "within") (sg c) else
 if inS c p = true then .go (Str.ofString "part") (Str.ofString "cell") (Str.ofString "") else
 if isS (sg c) (Str.ofString " ") = true then (if b3 = true then .go (Str.ofString "skip") w u else .go (Str.ofString "put") (Str.ofString "plain") (Str.ofString "")) else
 .go (Str.ofString "put") (Str.ofString "plain") (Str.ofString "")
def mPlain (p q f : Str) (b4 : Bool) (c : Nat) : Res :=
 if inS c f = true then .go (Str.ofString "skip") (Str.ofString "freed") (Str.ofString "") else
 if isS (sg c) (Str.ofString "\n") = true then .go (Str.ofString "end") (Str.ofString "row") (Str.ofString "") else
 if inS c p = true then .go (Str.ofString "part") (Str.ofString "cell") (Str.ofString "") else
 if inS c q = true then (if (!b4) = true then .flt (Str.ofString "quote") else .go (Str.ofString "put") (Str.ofString "plain") (Str.ofString "")) else
 .go (Str.ofString "put") (Str.ofString "plain") (Str.ofString "")
def mWithin (f : Str) (b1 b2 : Bool) (u : Str) (c : Nat) : Res :=
 if inS c f = true then .go (Str.ofString "skip") (Str.ofString "freed") u else
 if isS (sg c) u = true then (if b1 = true then .go (Str.ofString "skip") (Str.ofString "doubt") u else .go (Str.ofString "skip") (Str.ofString "behind") (Str.ofString "")) else
 if isS (sg c) (Str.ofString "\n") = true then (if (!b2) = true then .flt (Str.ofString "line") else .go (Str.ofString "put") (Str.ofString "within") u) else
 .go (Str.ofString "put") (Str.ofString "within") u
def mBehind (p : Str) (b3 : Bool) (c : Nat) : Res :=
 if isS (sg c) (Str.ofString "\n") = true then .go (Str.ofString "end") (Str.ofString "row") (Str.ofString "") else
 if inS c p = true then .go (Str.ofString "part") (Str.ofString "cell") (Str.ofString "") else
 if isS (sg c) (Str.ofString " ") = true then (if b3 = true then .go (Str.ofString "skip") (Str.ofString "behind") (Str.ofString "") else .flt (Str.ofString "behind")) else
 .flt (Str.ofString "behind")
def mDoubt (p : Str) (b3 : Bool) (u : Str) (c : Nat) : Res := if isS (sg c) u = true then .go (Str.ofString "put") (Str.ofString "within") u else mBehind p b3 c
def mFreedX (u : Str) : Res := if isS u (Str.ofString "") = true then .go (Str.ofString "put") (Str.ofString "plain") (Str.ofString "") else .go (Str.ofString "put") (Str.ofString "within") u
def mFreed (b2 : Bool) (u : Str) (c : Nat) : Res :=
 if isS (sg c) (Str.ofString "\n") = true then (if (!b2) = true then .flt (Str.ofString "line") else mFreedX u) else mFreedX u
def mOpen (p q f : Str) (b3 b4 : Bool) (w u : Str) (c : Nat) : Res := if isS w (Str.ofString "plain") = true then mPlain p q f b4 c else mBegin p q f b3 w u c
def stepM (p q f : Str) (b1 b2 b3 b4 : Bool) (w u : Str) (c : Nat) : Res :=
 if isS w (Str.ofString "within") = true then mWithin f b1 b2 u c else
 if isS w (Str.ofString "freed") = true then mFreed b2 u c else
 if isS w (Str.ofString "doubt") = true then mDoubt p b3 u c else
 if isS w (Str.ofString "behind") = true then mBehind p b3 c else
 mOpen p q f b3 b4 w u c
theorem ns {a b : String} (h : isS (Str.ofString a) (Str.ofString b) = false) : ¬ isS (Str.ofString a) (Str.ofString b) = true := by rw [h]; decide
theorem sm_plain {p q f : Str} {b1 b2 b3 b4 : Bool} {w u : Str} {c : Nat} (h : isS w (Str.ofString "plain") = true) : stepM p q f b1 b2 b3 b4 w u c = mPlain p q f b4 c := by
 cases isS_eq h
 unfold stepM mOpen
 rw [if_neg (ns (by decide +kernel)), if_neg (ns (by decide +kernel)), if_neg (ns (by decide +kernel)), if_neg (ns (by decide +kernel)), if_pos (isS_self _)]
theorem sm_within {p q f : Str} {b1 b2 b3 b4 : Bool} {w u : Str} {c : Nat} (h : isS w (Str.ofString "within") = true) : stepM p q f b1 b2 b3 b4 w u c = mWithin f b1 b2 u c := by
 unfold stepM
 rw [if_pos h]
theorem sm_doubt {p q f : Str} {b1 b2 b3 b4 : Bool} {w u : Str} {c : Nat} (h : isS w (Str.ofString "doubt") = true) : stepM p q f b1 b2 b3 b4 w u c = mDoubt p b3 u c := by
 cases isS_eq h
 unfold stepM
 rw [if_neg (ns (by decide +kernel)), if_neg (ns (by decide +kernel)), if_pos (isS_self _)]
theorem sm_behind {p q f : Str} {b1 b2 b3 b4 : Bool} {w u : Str} {c : Nat} (h : isS w (Str.ofString "behind") = true) : stepM p q f b1 b2 b3 b4 w u c = mBehind p b3 c := by
 cases isS_eq h
 unfold stepM
 rw [if_neg (ns (by decide +kernel)), if_neg (ns (by decide +kernel)), if_neg (ns (by decide +kernel)), if_pos (isS_self _)]
theorem sm_freed {p q f : Str} {b1 b2 b3 b4 : Bool} {w u : Str} {c : Nat} (h : isS w (Str.ofString "freed") = true) : stepM p q f b1 b2 b3 b4 w u c = mFreed b2 u c := by
 cases isS_eq h
 unfold stepM
 rw [if_neg (ns (by decide +kernel)), if_pos (isS_self _)]
theorem sm_open {p q f : Str} {b1 b2 b3 b4 : Bool} {w u : Str} {c : Nat} (h1 : isS w (Str.ofString "within") = false) (h2 : isS w (Str.ofString "freed") = false) (h3 : isS w (Str.ofString "doubt") = false) (h4 : isS w (Str.ofString "behind") = false) : stepM p q f b1 b2 b3 b4 w u c = mOpen p q f b3 b4 w u c := by
 unfold stepM
 rw [h1, h2, h3, h4]
 rfl
theorem no_of {b : Bool} (h : ¬ b = true) : b = false := by cases b <;> simp_all
def tfl (d : Addr) : List (Str × V) := [("dialect", .ref d)]
structure Tn (C CT : Addr) (H : Hp) (y : Addr) (p q f : Str) (b1 b2 b3 b4 : Bool) : Prop where
 ok : ∃ dy d dd, H y = some (.ins CT dy (tfl d)) ∧ H d = some (.ins C dd (dfl p q f b1 b2 b3 b4))
theorem Tn.mono {C CT : Addr} {H H' : Hp} {y : Addr} {p q f : Str} {b1 b2 b3 b4 : Bool} (s : Same H H') (h : Tn C CT H y p q f b1 b2 b3 b4) : Tn C CT H' y p q f b1 b2 b3 b4 := by
 obtain ⟨dy, d, dd, e1, e2⟩ := h.ok
 exact ⟨dy, d, dd, s _ _ e1, s _ _ e2⟩
theorem same_make {H H' : Hp} {y dy : Addr} {o : HO} (hy : H y = none) (hdy : H dy = none) (kp : ∀ b o', upd (upd H dy (.own y)) y o b = some o' → b ≠ y → H' b = some o') : Same H H' := fun b o' e => kp b o' (by rw [upd_ne (ne_of_none e hy), upd_ne (ne_of_none e hdy)]; exact e) (ne_of_none e hy)
theorem made_old {H : Hp} {y dy b : Addr} {o o' : HO} (hy : H y = none) (hdy : H dy = none) (e : H b = some o') : upd (upd H dy (.own y)) y o b = some o' := by rw [upd_ne (ne_of_none e hy), upd_ne (ne_of_none e hdy)]; exact e
def RelT (K : PySem.W.Frag) (H : Hp) (x : V) (w : Str × Str) : Prop := ∃ a, x = .ref a ∧ SqT K H a [.str w.1, .str w.2]
theorem RelT.mono {K : PySem.W.Frag} {H H' : Hp} {x : V} {w : Str × Str} (e : Same H H') (h : RelT K H x w) : RelT K H' x w := let ⟨a, e1, e2⟩ := h; ⟨a, e1, sqt_mono e e2⟩
theorem RelT.but {K : PySem.W.Frag} {H : Hp} {x : V} {w : Str × Str} {l : Addr} {ys : List V} {o : HO} (hl : H l = some (.lst ys)) (h : RelT K H x w) : RelT K (upd H l o) x w := by
 obtain ⟨a, e1, e2⟩ := h
 refine ⟨a, e1, ?_⟩
 rcases e2 with (h | ⟨ob, h⟩) | h
 · exact .inl (.inl ((upd_ne (ne_of h hl (by intro z; cases z))).trans h))
 · exact .inl (.inr ⟨ob, (upd_ne (ne_of h hl (by intro z; cases z))).trans h⟩)
 · exact .inr h
theorem paired_imp {α β : Type} {F G : α → β → Prop} (h : ∀ a b, F a b → G a b) : ∀ {xs : List α} {ys : List β}, Paired F xs ys → Paired G xs ys
 | _, _, .nil => .nil
 | _, _, .cons q r => .cons (h _ _ q) (paired_imp h r)
theorem paired_app {α β : Type} {F : α → β → Prop} : ∀ {xs xs' : List α} {ys ys' : List β}, Paired F xs ys → Paired F xs' ys' → Paired F (xs ++ xs') (ys ++ ys')
 | _, _, _, _, .nil, r => r
 | _, _, _, _, .cons q t, r => .cons q (paired_app t r)
theorem paired_get {α β : Type} {F : α → β → Prop} : ∀ {xs : List α} {ys : List β}, Paired F xs ys → ∀ (j : Nat) x, xs[j]? = some x → ∃ y, ys[j]? = some y ∧ F x y
 | _, _, .nil, j, x, h => by simp at h
 | _, _, .cons q t, 0, x, h => by simp at h; subst h; exact ⟨_, rfl, q⟩
 | _, _, .cons q t, j + 1, x, h => by
   obtain ⟨y, h1, h2⟩ := paired_get t j x (by simpa using h)
   exact ⟨y, by simpa using h1, h2⟩
def c5 : List (Str × Str) := [(Str.ofString "row", Str.ofString ""), (Str.ofString "cell", Str.ofString ""), (Str.ofString "plain", Str.ofString ""), (Str.ofString "behind", Str.ofString ""), (Str.ofString "freed", Str.ofString "")]
def c3 (c : Nat) : List (Str × Str) := [(Str.ofString "within", sg c), (Str.ofString "doubt", sg c), (Str.ofString "freed", sg c)]
def cont (l : List Nat) : List (Str × Str) := c5 ++ l.flatMap c3
def nin (u f : Str) : Bool := !(!(Builtin.Str.occurrences f u 0 f.length 1).isEmpty)
def liveM (f w u : Str) : Bool := if isS u (Str.ofString "") = true then true else if isS w (Str.ofString "doubt") = true then true else nin u f
theorem inS_iff (c : Nat) (z : Str) : inS c z = decide (c ∈ z.cps.toList) := StrLaws.found_one z c
theorem inS_no {c : Nat} {z : Str} (h : c ∉ z.cps.toList) : ¬ inS c z = true := by rw [inS_iff]; simpa using h
theorem l10 {z : Str} (g : Sg z) : ¬ inS 10 z = true := inS_no fun h => by have := (g.pr 10 h).1; omega
theorem sg_ne : ∀ c : Nat, ¬ isS (sg c) (Str.ofString "") = true := fun c e => by
 have := congrArg Str.length (isS_eq e)
 have e0 : (Str.ofString "").length = 0 := by decide +kernel
 rw [e0] at this
 exact absurd this (by show ¬ (1 = 0); decide)
theorem lnl : Str.ofString "\n" = sg 10 := by decide +kernel
theorem app_list (a b : Str) : (a ++ b).cps.toList = a.cps.toList ++ b.cps.toList := by
 show (a.cps ++ b.cps).toList = _
 simp
theorem em_list : (Str.ofString "").cps.toList = [] := by decide +kernel
def StOk (q w u : Str) : Prop := (u = Str.ofString "" ∧ (w = Str.ofString "row" ∨ w = Str.ofString "cell" ∨ w = Str.ofString "plain" ∨ w = Str.ofString "behind" ∨ w = Str.ofString "freed")) ∨ ∃ c, c ∈ q.cps.toList ∧ u = sg c ∧ (w = Str.ofString "within" ∨ w = Str.ofString "doubt" ∨ w = Str.ofString "freed")
theorem step_open {p q f : Str} {b1 b2 b3 b4 : Bool} {u : Str} {c : Nat} (a : String) (h1 : isS (Str.ofString a) (Str.ofString "within") = false) (h2 : isS (Str.ofString a) (Str.ofString "freed") = false) (h3 : isS (Str.ofString a) (Str.ofString "doubt") = false) (h4 : isS (Str.ofString a) (Str.ofString "behind") = false) : stepM p q f b1 b2 b3 b4 (Str.ofString a) u c = mOpen p q f b3 b4 (Str.ofString a) u c := sm_open h1 h2 h3 h4
theorem sqt_but {K : PySem.W.Frag} {H : Hp} {a l : Addr} {xs ys : List V} {o : HO} (hl : H l = some (.lst ys)) (e2 : SqT K H a xs) : SqT K (upd H l o) a xs := by
 rcases e2 with (h | ⟨ob, h⟩) | h
 · exact .inl (.inl ((upd_ne (ne_of h hl (by intro z; cases z))).trans h))
 · exact .inl (.inr ⟨ob, (upd_ne (ne_of h hl (by intro z; cases z))).trans h⟩)
 · exact .inr h

theorem take_snocG {α : Type} {l : List α} {i : Nat} {c : α} (h : l[i]? = some c) : l.take (i + 1) = l.take i ++ [c] := by
 rw [List.take_succ, h]; rfl
def cellOk (z : Str) : Prop := ∀ k ∈ z.cps.toList, k = 10 ∨ Pn k
theorem sgL {c : Nat} {z : Str} (e : z = Str.ofString "\n") (h : ¬ decide (V.str (sg c) = V.str z) = true) : c ≠ 10 := fun e2 => h (by
 have : Str.ofString "\n" = sg 10 := by decide +kernel
 rw [e, e2, this]; exact decide_eq_true rfl)

theorem seq_split {t u : TS} {D : Ends} {σ : St} {H : Hp} (N : St → Hp → Prop) (hu : ∀ σ' H', N σ' H' → u D σ' H') (ht : (∀ σ' H', N σ' H' → u D σ' H') → t { D with nx := u D } σ H) : tSeq t u D σ H := ht hu

theorem cellOk_snoc {z : Str} {c : Nat} (h : cellOk z) (hc : c = 10 ∨ Pn c) : cellOk (z ++ sg c) := by
 intro k hk
 have e : (z ++ sg c).cps.toList = z.cps.toList ++ [c] := by
   show (z.cps ++ #[c]).toList = _
   simp
 rw [e] at hk
 rcases List.mem_append.mp hk with hk | hk
 · exact h k hk
 · rw [List.mem_singleton.mp hk]; exact hc
theorem cellOk_nil : cellOk (Str.ofString "") := by
 have e : (Str.ofString "").cps.toList = [] := by decide +kernel
 intro k hk; rw [e] at hk; cases hk

theorem em_len : (Str.ofString "").length = 0 := by decide +kernel
def runM (p q f : Str) (b1 b2 b3 b4 : Bool) : Str → Str → List Nat → List Str × Str × Str × Option Str
 | w, u, [] => ([], w, u, none)
 | w, u, c :: cs => match stepM p q f b1 b2 b3 b4 w u c with
   | .flt e => ([], w, u, some e)
   | .go k w' u' => (k :: (runM p q f b1 b2 b3 b4 w' u' cs).1, (runM p q f b1 b2 b3 b4 w' u' cs).2)
def appR (ks : List Str) (r : List Str × Str × Str × Option Str) : List Str × Str × Str × Option Str := (ks ++ r.1, r.2)
theorem Tn.but {C CT : Addr} {H : Hp} {y : Addr} {p q f : Str} {b1 b2 b3 b4 : Bool} {l : Addr} {ys : List V} {o : HO} (hl : H l = some (.lst ys)) (h : Tn C CT H y p q f b1 b2 b3 b4) : Tn C CT (upd H l o) y p q f b1 b2 b3 b4 := by
 obtain ⟨dy, d, dd, e1, e2⟩ := h.ok
 exact ⟨dy, d, dd, (upd_ne (ne_of e1 hl (by intro z; cases z))).trans e1, (upd_ne (ne_of e2 hl (by intro z; cases z))).trans e2⟩
theorem run_go0 {p q f : Str} {b1 b2 b3 b4 : Bool} {w u k w' u' : Str} {c : Nat} {cs : List Nat} (h : stepM p q f b1 b2 b3 b4 w u c = .go k w' u') : runM p q f b1 b2 b3 b4 w u (c :: cs) = (k :: (runM p q f b1 b2 b3 b4 w' u' cs).1, (runM p q f b1 b2 b3 b4 w' u' cs).2) := by
 show (match stepM p q f b1 b2 b3 b4 w u c with | .flt e => ([], w, u, some e) | .go k w' u' => (k :: (runM p q f b1 b2 b3 b4 w' u' cs).1, (runM p q f b1 b2 b3 b4 w' u' cs).2)) = _
 rw [h]
theorem run_flt0 {p q f : Str} {b1 b2 b3 b4 : Bool} {w u e : Str} {c : Nat} {cs : List Nat} (h : stepM p q f b1 b2 b3 b4 w u c = .flt e) : runM p q f b1 b2 b3 b4 w u (c :: cs) = ([], w, u, some e) := by
 show (match stepM p q f b1 b2 b3 b4 w u c with | .flt e => ([], w, u, some e) | .go k w' u' => (k :: (runM p q f b1 b2 b3 b4 w' u' cs).1, (runM p q f b1 b2 b3 b4 w' u' cs).2)) = _
 rw [h]
theorem in_q {q : Str} {c : Nat} (h : inS c q = true) : c ∈ q.cps.toList := by rw [inS_iff] at h; exact of_decide_eq_true h
theorem step_ok {p q f : Str} {b1 b2 b3 b4 : Bool} {w u k w' u' : Str} {c : Nat} (h : StOk q w u) (hs : stepM p q f b1 b2 b3 b4 w u c = .go k w' u') : StOk q w' u' := by
 have hopen : ∀ {w u : Str}, StOk q w u → mOpen p q f b3 b4 w u c = .go k w' u' → StOk q w' u' := by
   intro w u h hs
   unfold mOpen mPlain mBegin at hs
   repeat' split at hs
   all_goals first
     | (cases hs; exact .inl ⟨rfl, .inl rfl⟩)
     | (cases hs; exact .inl ⟨rfl, .inr (.inl rfl)⟩)
     | (cases hs; exact .inl ⟨rfl, .inr (.inr (.inl rfl))⟩)
     | (cases hs; exact .inl ⟨rfl, .inr (.inr (.inr (.inr rfl)))⟩)
     | (cases hs; rename_i hq _ _; exact .inr ⟨c, in_q (by assumption), rfl, .inl rfl⟩)
     | (cases hs; exact .inr ⟨c, in_q (by assumption), rfl, .inl rfl⟩)
     | (cases hs; exact h)
     | cases hs
 have hbeh : mBehind p b3 c = .go k w' u' → StOk q w' u' := by
   intro hs
   unfold mBehind at hs
   repeat' split at hs
   all_goals first
     | (cases hs; exact .inl ⟨rfl, .inl rfl⟩)
     | (cases hs; exact .inl ⟨rfl, .inr (.inl rfl)⟩)
     | (cases hs; exact .inl ⟨rfl, .inr (.inr (.inr (.inl rfl)))⟩)
     | cases hs
 rcases h with ⟨rfl, rfl | rfl | rfl | rfl | rfl⟩ | ⟨d, hd, rfl, rfl | rfl | rfl⟩
 · rw [step_open "row" (by decide +kernel) (by decide +kernel) (by decide +kernel) (by decide +kernel)] at hs
   exact hopen (.inl ⟨rfl, .inl rfl⟩) hs
 · rw [step_open "cell" (by decide +kernel) (by decide +kernel) (by decide +kernel) (by decide +kernel)] at hs
   exact hopen (.inl ⟨rfl, .inr (.inl rfl)⟩) hs
 · rw [step_open "plain" (by decide +kernel) (by decide +kernel) (by decide +kernel) (by decide +kernel)] at hs
   exact hopen (.inl ⟨rfl, .inr (.inr (.inl rfl))⟩) hs
 · rw [sm_behind (isS_self _)] at hs
   exact hbeh hs
 · rw [sm_freed (isS_self _)] at hs
   unfold mFreed mFreedX at hs
   rw [if_pos (isS_self _)] at hs
   repeat' split at hs
   all_goals first
     | (cases hs; exact .inl ⟨rfl, .inr (.inr (.inl rfl))⟩)
     | cases hs
 · rw [sm_within (isS_self _)] at hs
   unfold mWithin at hs
   repeat' split at hs
   all_goals first
     | (cases hs; exact .inr ⟨d, hd, rfl, .inr (.inr rfl)⟩)
     | (cases hs; exact .inr ⟨d, hd, rfl, .inr (.inl rfl)⟩)
     | (cases hs; exact .inr ⟨d, hd, rfl, .inl rfl⟩)
     | (cases hs; exact .inl ⟨rfl, .inr (.inr (.inr (.inl rfl)))⟩)
     | cases hs
 · rw [sm_doubt (isS_self _)] at hs
   unfold mDoubt at hs
   split at hs
   · cases hs; exact .inr ⟨d, hd, rfl, .inl rfl⟩
   · exact hbeh hs
 · rw [sm_freed (isS_self _)] at hs
   unfold mFreed mFreedX at hs
   rw [if_neg (sg_ne d)] at hs
   repeat' split at hs
   all_goals first
     | (cases hs; exact .inr ⟨d, hd, rfl, .inl rfl⟩)
     | cases hs
theorem same_self {K : PySem.W.Frag} {H : Hp} {xs : List V} (h : xs.all flatV = true) : ∀ (j : Nat) x y, xs[j]? = some x → xs[j]? = some y → SameD K H 1 x y := fun j x y ex ey => by
 rw [ex] at ey; cases ey
 have := List.all_eq_true.mp h x (List.mem_of_getElem? ex)
 exact .flat this this (eqV_self this)

def oth : List Nat := (Str.ofString "a7ZbXq9KwM").cps.toList
theorem same_raise {H H1 H' : Hp} {ea d : Addr} {o : HO} (s : Same H H1) (hea : H1 ea = none) (hd : (upd H1 ea o) d = none) (oth : ∀ b, b ≠ ea → b ≠ d → H' b = upd H1 ea o b) : Same H (del H' ea) := fun b u hb => by
 have hb1 := s b u hb
 have n1 : b ≠ ea := fun z => by rw [z, hea] at hb1; cases hb1
 have n2 : b ≠ d := fun z => by rw [← z, upd_ne n1, hb1] at hd; cases hd
 rw [del_ne n1, oth b n1 n2, upd_ne n1]; exact hb1
theorem small_log {n : Nat} (h : n ≤ 2000) : ((n : Int)).natAbs.log2 < 1920 := by
 rw [Int.natAbs_natCast]
 by_cases hz : n = 0
 · subst hz; decide
 · exact (Nat.log2_lt hz).mpr (Nat.lt_of_lt_of_le (show n < 2 ^ 11 by omega) (Nat.pow_le_pow_right (by decide) (by decide)))
theorem ne_ofS {a b : String} (h : isS (Str.ofString a) (Str.ofString b) = false) : Str.ofString a ≠ Str.ofString b := fun e => by rw [e, isS_self] at h; cases h
theorem run_appZ {p q f : Str} {b1 b2 b3 b4 : Bool} {ds : List Nat} : ∀ {cs : List Nat} {w u : Str}, (runM p q f b1 b2 b3 b4 w u cs).2.2.2 = none → runM p q f b1 b2 b3 b4 w u (cs ++ ds) = appR (runM p q f b1 b2 b3 b4 w u cs).1 (runM p q f b1 b2 b3 b4 (runM p q f b1 b2 b3 b4 w u cs).2.1 (runM p q f b1 b2 b3 b4 w u cs).2.2.1 ds)
 | [], w, u, _ => by
   show runM p q f b1 b2 b3 b4 w u ds = ([] ++ (runM p q f b1 b2 b3 b4 w u ds).1, (runM p q f b1 b2 b3 b4 w u ds).2)
   rw [List.nil_append]
 | c :: cs, w, u, h => by
   show runM p q f b1 b2 b3 b4 w u (c :: (cs ++ ds)) = _
   cases hs : stepM p q f b1 b2 b3 b4 w u c with
   | go k w' u' =>
     rw [run_go0 hs] at h
     have e := run_appZ (cs := cs) (w := w') (u := u') (ds := ds) h
     rw [run_go0 hs, run_go0 hs, e]
     rfl
   | flt e => rw [run_flt0 hs] at h; cases h
theorem topd_flat {K : PySem.W.Frag} {H : Hp} {f4 t2 : Addr} {xs : List V} (h1 : H f4 = some (.tup xs)) (h2 : H t2 = some (.tup xs)) (fl : xs.all flatV = true) : TopD K H (.ref f4) (.ref t2) :=
 ⟨1, f4, t2, xs, xs, rfl, rfl, by decide, rfl, .inl ⟨SqT.of h1, SqT.of h2⟩, same_self fl⟩
def lens (r : List Str) : List Nat := r.map fun z => z.length
def total (t : List (List Str)) : Nat := (t.map fun r => (lens r).sum).sum
structure RowOk (r : List Str) : Prop where
 lo : 1 ≤ r.length
 hi : r.length ≤ 20
 ok : ∀ c ∈ r, cellOk c
structure TabOk (t : List (List Str)) : Prop where
 n : t.length ≤ 60
 rows : ∀ r ∈ t, RowOk r
 sum : total t ≤ 400
theorem mem_sum {ns : List Nat} {n : Nat} (h : n ∈ ns) : n ≤ ns.sum := by
 induction ns with
 | nil => cases h
 | cons m ns ih =>
   rw [List.sum_cons]
   rcases List.mem_cons.mp h with rfl | h
   · omega
   · have := ih h; omega
theorem row_sum {t : List (List Str)} {r : List Str} (h : r ∈ t) : (lens r).sum ≤ total t := mem_sum (List.mem_map_of_mem h)
theorem cell_len {r : List Str} {c : Str} (h : c ∈ r) : c.length ≤ (lens r).sum := mem_sum (List.mem_map_of_mem (f := fun z : Str => z.length) h)
def RelRow (H : Hp) (v : V) (r : List Str) : Prop := ∃ a, v = .ref a ∧ H a = some (.lst (r.map V.str))
theorem RelRow.mono {H H' : Hp} {v : V} {r : List Str} (s : Same H H') (h : RelRow H v r) : RelRow H' v r := let ⟨a, e1, e2⟩ := h; ⟨a, e1, s _ _ e2⟩
def puts (z : Str) : List (Str × Str) := z.cps.toList.map fun k => (Str.ofString "put", sg k)
def partT : Str × Str := (Str.ofString "part", Str.ofString "")
def endT : Str × Str := (Str.ofString "end", Str.ofString "")
def tokC : List Str → Nat → List (Str × Str)
 | _, 0 => []
 | r, n + 1 => tokC r n ++ ((if n = 0 then [] else [partT]) ++ puts (r.getD n (Str.ofString "")))
def tokRow (r : List Str) : List (Str × Str) := tokC r r.length ++ [endT]
def tokTab (t : List (List Str)) : List (Str × Str) := t.flatMap tokRow
theorem tokC_succ {r : List Str} {n : Nat} {z : Str} (h : r[n]? = some z) : tokC r (n + 1) = tokC r n ++ ((if n = 0 then [] else [partT]) ++ puts z) := by
 show tokC r n ++ ((if n = 0 then [] else [partT]) ++ puts (r.getD n (Str.ofString ""))) = _
 rw [List.getD_eq_getElem?_getD, h]; rfl
theorem puts_len (z : Str) : (puts z).length = z.length := by unfold puts; rw [List.length_map, Array.length_toList]; rfl
theorem tokC_len (r : List Str) : ∀ n, n ≤ r.length → (tokC r n).length + (if n = 0 then 0 else 1) = n + (lens (r.take n)).sum
 | 0, _ => by simp [tokC, lens]
 | n + 1, h => by
   have hn : n < r.length := by omega
   rw [tokC_succ (z := r[n]) (by simp [hn]), List.length_append, List.length_append, puts_len, take_snocG (c := r[n]) (by simp [hn])]
   have ih := tokC_len r n (by omega)
   unfold lens at ih ⊢
   rw [List.map_append, List.sum_append]
   simp only [List.map_cons, List.map_nil, List.sum_cons, List.sum_nil]
   by_cases h0 : n = 0
   · subst h0; simp [tokC]; omega
   · simp [h0] at ih ⊢; omega
theorem tokRow_len {r : List Str} (h : 1 ≤ r.length) : (tokRow r).length = r.length + (lens r).sum := by
 unfold tokRow
 have := tokC_len r r.length (Nat.le_refl _)
 rw [List.take_of_length_le (Nat.le_refl _), if_neg (by omega)] at this
 rw [List.length_append]; show _ + 1 = _; omega
theorem tokTab_len {t : List (List Str)} (h : ∀ r ∈ t, RowOk r) : (tokTab t).length = (t.map fun r => r.length + (lens r).sum).sum := by
 unfold tokTab
 induction t with
 | nil => rfl
 | cons r t ih =>
   rw [List.flatMap_cons, List.length_append, ih (fun r' h' => h r' (List.mem_cons_of_mem _ h')), tokRow_len (h r (List.mem_cons_self ..)).lo, List.map_cons, List.sum_cons]
theorem tab_bound {t : List (List Str)} (h : ∀ r ∈ t, RowOk r) : (t.map fun r => r.length + (lens r).sum).sum ≤ 20 * t.length + total t := by
 unfold total
 induction t with
 | nil => exact Nat.le_refl _
 | cons r t ih =>
   have h1 := (h r (List.mem_cons_self ..)).hi
   have h2 := ih fun r' h' => h r' (List.mem_cons_of_mem _ h')
   rw [List.map_cons, List.sum_cons, List.map_cons, List.sum_cons, List.length_cons]
   omega
theorem tab_take {t : List (List Str)} (h : TabOk t) (i : Nat) : (tokTab (t.take i)).length ≤ 1600 := by
 have hr : ∀ r ∈ t.take i, RowOk r := fun r hr => h.rows r (List.mem_of_mem_take hr)
 rw [tokTab_len hr]
 have h1 := tab_bound hr
 have h2 : (t.take i).length ≤ 60 := by rw [List.length_take]; have := h.n; omega
 have h3 : total (t.take i) ≤ total t := by
   unfold total
   have e := congrArg (fun l => (l.map fun r => (lens r).sum).sum) (List.take_append_drop i t)
   simp only [List.map_append, List.sum_append] at e
   omega
 have := h.sum
 omega
theorem tokTab_snoc (t : List (List Str)) (r : List Str) : tokTab (t ++ [r]) = tokTab t ++ tokRow r := by unfold tokTab; rw [List.flatMap_append]; simp
theorem paired_snoc {α β : Type} {F : α → β → Prop} {xs : List α} {ys : List β} {x : α} {y : β} (h : Paired F xs ys) (q : F x y) : Paired F (xs ++ [x]) (ys ++ [y]) := paired_app h (.cons q .nil)
theorem lens_snoc (r : List Str) (z : Str) : (lens (r ++ [z])).sum = (lens r).sum + z.length := by unfold lens; rw [List.map_append, List.sum_append]; simp
theorem app_listS (a b : Str) : (a ++ b).cps.toList = a.cps.toList ++ b.cps.toList := by
 show (a.cps ++ b.cps).toList = _
 simp
def stepS (acc : List Nat) (c : Nat) : List Nat := if away ⟨acc.toArray⟩ c = true then acc ++ [c] else acc
def specL (l : List Nat) : List Nat := l.foldl stepS []
theorem specL_snoc (l : List Nat) (c : Nat) : specL (l ++ [c]) = stepS (specL l) c := by unfold specL; rw [List.foldl_append]; rfl
theorem specL_len (l : List Nat) : (specL l).length ≤ l.length := by
 have key : ∀ (l acc : List Nat), (l.foldl stepS acc).length ≤ acc.length + l.length := by
   intro l
   induction l with
   | nil => intro acc; exact Nat.le_refl _
   | cons c l ih =>
     intro acc
     rw [List.foldl_cons, List.length_cons]
     have h1 := ih (stepS acc c)
     have h2 : (stepS acc c).length ≤ acc.length + 1 := by
       unfold stepS
       split
       · rw [List.length_append]; exact Nat.le_refl _
       · omega
     omega
 have := key l []
 simpa [specL] using this
def specM (z : Str) : Str := ⟨(specL z.cps.toList).toArray⟩
theorem specM_len (z : Str) : (specM z).length ≤ z.length := by
 show (specL z.cps.toList).toArray.size ≤ _
 rw [List.size_toArray]
 refine Nat.le_trans (specL_len _) ?_
 rw [Array.length_toList]; exact Nat.le_refl _
def liveStep (p q f : Str) (b1 b2 b3 b4 : Bool) (w u : Str) (c : Nat) : Option (Str × Str × Str) := match stepM p q f b1 b2 b3 b4 w u c with
 | .go k w' u' => if liveM f w' u' = true then some (k, w', u') else none
 | .flt _ => none
def lvV (K : PySem.W.Frag) (x : Option (Str × Str × Str)) (H : Hp) (v : V) : Prop := match x with
 | none => v = .non
 | some (k, w, u) => ∃ a b, v = .ref a ∧ SqT K H a [.str k, .ref b] ∧ SqT K H b [.str w, .str u]
def cntM (ts : List (Str × Str)) (n : Nat) (k s : Str) : Option Nat := if isS k (Str.ofString "skip") = true then some n else if ts[n]? = some (k, if isS k (Str.ofString "put") = true then s else Str.ofString "") then some (n + 1) else none
def cntV (x : Option Nat) : V := match x with
 | none => .non
 | some n => .int n
abbrev Mrk := (Str × Str) × Nat
def MrkAt (K : PySem.W.Frag) (H : Hp) (m : Mrk) (v : V) : Prop := ∃ b s, v = .ref b ∧ SqT K H b [.ref s, .int m.2] ∧ SqT K H s [.str m.1.1, .str m.1.2]
theorem MrkAt.mono {K : PySem.W.Frag} {H H' : Hp} {m : Mrk} {v : V} (e : Same H H') (h : MrkAt K H m v) : MrkAt K H' m v := by
 obtain ⟨b, s, e1, e2, e3⟩ := h
 exact ⟨b, s, e1, sqt_mono e e2, sqt_mono e e3⟩
def mrkM (p q f : Str) (b1 b2 b3 b4 : Bool) (ts : List (Str × Str)) (m : Mrk) (c : Nat) : Option Mrk := match liveStep p q f b1 b2 b3 b4 m.1.1 m.1.2 c with
 | none => none
 | some (k, w, u) => (match cntM ts m.2 k (sg c) with
   | none => none
   | some n => some ((w, u), n))
def mrkV (K : PySem.W.Frag) (x : Option Mrk) (H : Hp) (v : V) : Prop := match x with
 | none => v = .non
 | some m => MrkAt K H m v

def mfl (y l : Addr) : List (Str × V) := [("turn", .ref y), ("tokens", .ref l)]
structure Mkr (K : PySem.W.Frag) (C CT CM : Addr) (H : Hp) (m : Addr) (p q f : Str) (b1 b2 b3 b4 : Bool) (ts : List (Str × Str)) : Prop where
 ok : ∃ dm y l ys, H m = some (.ins CM dm (mfl y l)) ∧ Tn C CT H y p q f b1 b2 b3 b4 ∧ H l = some (.lst ys) ∧ Paired (RelT K H) ys ts
theorem toks_mono {K : PySem.W.Frag} {H H' : Hp} (s : Same H H') : ∀ {ys : List V} {ts : List (Str × Str)}, Paired (RelT K H) ys ts → Paired (RelT K H') ys ts
 | _, _, .nil => .nil
 | _, _, .cons a r => .cons (a.mono s) (toks_mono s r)
theorem Mkr.mono {K : PySem.W.Frag} {C CT CM : Addr} {H H' : Hp} {m : Addr} {p q f : Str} {b1 b2 b3 b4 : Bool} {ts : List (Str × Str)} (s : Same H H') (h : Mkr K C CT CM H m p q f b1 b2 b3 b4 ts) : Mkr K C CT CM H' m p q f b1 b2 b3 b4 ts := by
 obtain ⟨dm, y, l, ys, e1, e2, e3, e4⟩ := h.ok
 exact ⟨dm, y, l, ys, s _ _ e1, e2.mono s, s _ _ e3, toks_mono s e4⟩
theorem sqt_ins {K : PySem.W.Frag} {H : Hp} {m a C dm : Addr} {fs : List (Str × V)} {xs : List V} {o : HO} (hm : H m = some (.ins C dm fs)) (h : SqT K H a xs) : SqT K (upd H m o) a xs := by
 rcases h with (h | ⟨ob, h⟩) | h
 · exact .inl (.inl ((upd_ne (ne_of h hm (by intro z; cases z))).trans h))
 · exact .inl (.inr ⟨ob, (upd_ne (ne_of h hm (by intro z; cases z))).trans h⟩)
 · exact .inr h
theorem toks_ins {K : PySem.W.Frag} {H : Hp} {m C dm : Addr} {fs : List (Str × V)} {o : HO} (hm : H m = some (.ins C dm fs)) : ∀ {ys : List V} {ts : List (Str × Str)}, Paired (RelT K H) ys ts → Paired (RelT K (upd H m o)) ys ts
 | _, _, .nil => .nil
 | _, _, .cons ⟨a, e1, e2⟩ r => .cons ⟨a, e1, sqt_ins hm e2⟩ (toks_ins hm r)
theorem Tn.off {C CT : Addr} {H : Hp} {y m : Addr} {p q f : Str} {b1 b2 b3 b4 : Bool} {o o' : HO} (hm : H m = some o') (n1 : ∀ d fs, o' ≠ .ins CT d (tfl fs)) (n2 : ∀ d, o' ≠ .ins C d (dfl p q f b1 b2 b3 b4)) (h : Tn C CT H y p q f b1 b2 b3 b4) : Tn C CT (upd H m o) y p q f b1 b2 b3 b4 := by
 obtain ⟨dy, d, dd, e1, e2⟩ := h.ok
 exact ⟨dy, d, dd, (upd_ne (fun q => by rw [q, hm] at e1; exact n1 _ _ (Option.some.inj e1))).trans e1, (upd_ne (fun q => by rw [q, hm] at e2; exact n2 _ (Option.some.inj e2))).trans e2⟩

theorem Mkr.off {K : PySem.W.Frag} {C CT CM CW : Addr} {H : Hp} {m z dz : Addr} {fs : List (Str × V)} {p q f : Str} {b1 b2 b3 b4 : Bool} {ts : List (Str × Str)} {o : HO} (hz : H z = some (.ins CW dz fs)) (n0 : ∀ y l, fs ≠ mfl y l) (n1 : ∀ d, fs ≠ tfl d) (n2 : fs ≠ dfl p q f b1 b2 b3 b4) (h : Mkr K C CT CM H m p q f b1 b2 b3 b4 ts) : Mkr K C CT CM (upd H z o) m p q f b1 b2 b3 b4 ts := by
 obtain ⟨dm, y, l, ys, e1, e2, e3, e4⟩ := h.ok
 refine ⟨dm, y, l, ys, (upd_ne (fun q => ?_)).trans e1, Tn.off hz (fun d fs q => ?_) (fun d q => ?_) e2, (upd_ne (fun q => by rw [q, hz] at e3; cases e3)).trans e3, toks_ins hz e4⟩
 · rw [q, hz] at e1; injection e1 with e1; injection e1 with a b c; exact n0 _ _ c
 · injection q with a b c; exact n1 _ c
 · injection q with a b c; exact n2 c
theorem same_ins' {H : Hp} {x dx : Addr} {o : HO} (hx : H x = none) (hdx : H dx = none) : Same H (upd (upd H dx (.own x)) x o) := fun b o' e => by
 rw [upd_ne (ne_of_none e hx), upd_ne (ne_of_none e hdx)]; exact e
def wfl (m l : Addr) (z : Str) : List (Str × V) := [("marker", .ref m), ("tokens", .ref l), ("usual", .str z)]
def usM (p q f : Str) : Str := specM ((p ++ q) ++ f) ++ Str.ofString "\n" ++ Str.ofString " "
structure Wrt (K : PySem.W.Frag) (C CT CM CW : Addr) (H : Hp) (x : Addr) (p q f : Str) (b1 b2 b3 b4 : Bool) (ts : List (Str × Str)) : Prop where
 ok : ∃ dx m l ys, H x = some (.ins CW dx (wfl m l (usM p q f))) ∧ Mkr K C CT CM H m p q f b1 b2 b3 b4 ts ∧ H l = some (.lst ys) ∧ Paired (RelT K H) ys ts
theorem Wrt.mono {K : PySem.W.Frag} {C CT CM CW : Addr} {H H' : Hp} {x : Addr} {p q f : Str} {b1 b2 b3 b4 : Bool} {ts : List (Str × Str)} (s : Same H H') (h : Wrt K C CT CM CW H x p q f b1 b2 b3 b4 ts) : Wrt K C CT CM CW H' x p q f b1 b2 b3 b4 ts := by
 obtain ⟨dx, m, l, ys, e1, e2, e3, e4⟩ := h.ok
 exact ⟨dx, m, l, ys, s _ _ e1, e2.mono s, s _ _ e3, toks_mono s e4⟩
def ledM (p q f : Str) (b1 b2 b3 b4 : Bool) (ts : List (Str × Str)) (m : Mrk) : List (Nat × Mrk) := match ts[m.2]? with
 | none => []
 | some t => (specM (usM p q f ++ t.2)).cps.toList.filterMap fun c => (mrkM p q f b1 b2 b3 b4 ts m c).map fun m' => (c, m')
theorem MrkAt.but {K : PySem.W.Frag} {H : Hp} {m : Mrk} {v : V} {l : Addr} {ws : List V} {o : HO} (hl : H l = some (.lst ws)) (h : MrkAt K H m v) : MrkAt K (upd H l o) m v := by
 obtain ⟨b, s, e1, e2, e3⟩ := h
 exact ⟨b, s, e1, sqt_but hl e2, sqt_but hl e3⟩
theorem mrkV.mono {K : PySem.W.Frag} {x : Option Mrk} {H H' : Hp} {v : V} (s : Same H H') (h : mrkV K x H v) : mrkV K x H' v := by
 cases x with
 | none => exact h
 | some m => exact MrkAt.mono s h
theorem mrkV.but {K : PySem.W.Frag} {x : Option Mrk} {H : Hp} {v : V} {l : Addr} {ws : List V} {o : HO} (hl : H l = some (.lst ws)) (h : mrkV K x H v) : mrkV K x (upd H l o) v := by
 cases x with
 | none => exact h
 | some m => exact MrkAt.but hl h
abbrev Fnds (K : PySem.W.Frag) (F : Nat → Option Mrk) (H : Hp) : List V → List Nat → Prop := Paired fun v c => ∃ t w, v = .ref t ∧ H t = some (.tup [.str (sg c), w]) ∧ mrkV K (F c) H w
theorem Fnds.mono {K : PySem.W.Frag} {F : Nat → Option Mrk} {H H' : Hp} (s : Same H H') : ∀ {vs : List V} {cs : List Nat}, Fnds K F H vs cs → Fnds K F H' vs cs
 | _, _, .nil => .nil
 | _, _, .cons ⟨t, w, e, h, q⟩ r => .cons ⟨t, w, e, s _ _ h, mrkV.mono s q⟩ (Fnds.mono s r)
theorem Fnds.but {K : PySem.W.Frag} {F : Nat → Option Mrk} {H : Hp} {l : Addr} {ws : List V} {o : HO} (hl : H l = some (.lst ws)) : ∀ {vs : List V} {cs : List Nat}, Fnds K F H vs cs → Fnds K F (upd H l o) vs cs
 | _, _, .nil => .nil
 | _, _, .cons ⟨t, w, e, h, q⟩ r => .cons ⟨t, w, e, (upd_ne (ne_of h hl (by intro z; cases z))).trans h, mrkV.but hl q⟩ (Fnds.but hl r)
abbrev Leds (K : PySem.W.Frag) (H : Hp) : List V → List (Nat × Mrk) → Prop := Paired fun v e => ∃ t w, v = .ref t ∧ H t = some (.tup [.str (sg e.1), w]) ∧ MrkAt K H e.2 w
theorem Leds.mono {K : PySem.W.Frag} {H H' : Hp} (s : Same H H') : ∀ {vs : List V} {es : List (Nat × Mrk)}, Leds K H vs es → Leds K H' vs es
 | _, _, .nil => .nil
 | _, _, .cons ⟨t, w, e, h, q⟩ r => .cons ⟨t, w, e, s _ _ h, q.mono s⟩ (Leds.mono s r)
theorem Leds.but {K : PySem.W.Frag} {H : Hp} {l : Addr} {ws : List V} {o : HO} (hl : H l = some (.lst ws)) : ∀ {vs : List V} {es : List (Nat × Mrk)}, Leds K H vs es → Leds K (upd H l o) vs es
 | _, _, .nil => .nil
 | _, _, .cons ⟨t, w, e, h, q⟩ r => .cons ⟨t, w, e, (upd_ne (ne_of h hl (by intro z; cases z))).trans h, q.but hl⟩ (Leds.but hl r)
abbrev Cm := List (Mrk × Option (Mrk × Nat))
def hasC (cm : Cm) (m : Mrk) : Bool := cm.any fun e => decide (e.1 = m)
def visC (p : Mrk) (acc : Cm × List Mrk) (e : Nat × Mrk) : Cm × List Mrk := if hasC acc.1 e.2 = true then acc else (acc.1 ++ [(e.2, some (p, e.1))], acc.2 ++ [e.2])
def expC (led : Mrk → List (Nat × Mrk)) (acc : Cm × List Mrk) (p : Mrk) : Cm × List Mrk := (led p).foldl (visC p) acc
def expand (led : Mrk → List (Nat × Mrk)) (cm : Cm) (edge : List Mrk) : Cm × List Mrk := edge.foldl (expC led) (cm, [])
inductive RunC (good : Mrk → Bool) (led : Mrk → List (Nat × Mrk)) : Cm → List Mrk → Option Mrk → Cm → Prop where
 | stop {cm : Cm} : RunC good led cm [] none cm
 | found {cm : Cm} {edge : List Mrk} {m : Mrk} : edge.find? good = some m → RunC good led cm edge (some m) cm
 | go {cm cm' : Cm} {edge : List Mrk} {r : Option Mrk} : edge ≠ [] → edge.find? good = none → RunC good led (expand led cm edge).1 (expand led cm edge).2 r cm' → RunC good led cm edge r cm'
def linkV (K : PySem.W.Frag) (x : Option (Mrk × Nat)) (H : Hp) (v : V) : Prop := match x with
 | none => v = .non
 | some (m, c) => ∃ t w, v = .ref t ∧ SqT K H t [w, .str (sg c)] ∧ MrkAt K H m w
abbrev CRel (K : PySem.W.Frag) (H : Hp) : List (N3 (Lf ⊕ List Lf)) → Cm → Prop := Paired fun e p => e.1 = markK p.1 ∧ MrkAt K H p.1 (.ref e.2.1) ∧ linkV K p.2 H e.2.2
structure CameAt (P : Program) (w : World) (K : PySem.W.Frag) (H : Hp) (a : Addr) (cm : Cm) : Prop where
 ok : ∃ kvs, Nd (YM P w K) (ZM_lev P w) H a kvs ∧ CRel K H kvs cm
theorem MrkAt.keep {K : PySem.W.Frag} {H H' : Hp} {m : Mrk} {v : V} (t : ∀ b xs, SqT K H b xs → SqT K H' b xs) (h : MrkAt K H m v) : MrkAt K H' m v := by
 obtain ⟨b, s, e1, e2, e3⟩ := h
 exact ⟨b, s, e1, t _ _ e2, t _ _ e3⟩
theorem linkV.keep {K : PySem.W.Frag} {H H' : Hp} {x : Option (Mrk × Nat)} {v : V} (t : ∀ b xs, SqT K H b xs → SqT K H' b xs) (h : linkV K x H v) : linkV K x H' v := by
 cases x with
 | none => exact h
 | some mc => obtain ⟨t1, w1, e1, e2, e3⟩ := h; exact ⟨t1, w1, e1, t _ _ e2, e3.keep t⟩
theorem CRel.keep {K : PySem.W.Frag} {H H' : Hp} (t : ∀ b xs, SqT K H b xs → SqT K H' b xs) : ∀ {kvs : List (N3 (Lf ⊕ List Lf))} {cm : Cm}, CRel K H kvs cm → CRel K H' kvs cm
 | _, _, .nil => .nil
 | _, _, .cons a r => .cons ⟨a.1, a.2.1.keep t, a.2.2.keep t⟩ (CRel.keep t r)
theorem CameAt.mono {P : Program} {w : World} {K : PySem.W.Frag} {H H' : Hp} {a : Addr} {cm : Cm} (s : Same H H') (h : CameAt P w K H a cm) : CameAt P w K H' a cm := by
 obtain ⟨kvs, d, r⟩ := h.ok
 exact ⟨kvs, d.mono s, r.keep fun b xs q => sqt_mono s q⟩
theorem CameAt.but {P : Program} {w : World} {K : PySem.W.Frag} {H : Hp} {a l : Addr} {cm : Cm} {ws : List V} {o : HO} (hl : H l = some (.lst ws)) (h : CameAt P w K H a cm) : CameAt P w K (upd H l o) a cm := by
 obtain ⟨kvs, d, r⟩ := h.ok
 have t : ∀ b xs, SqT K H b xs → SqT K (upd H l o) b xs := fun b xs q => sqt_but hl q
 exact ⟨kvs, ⟨(upd_ne (ne_of d.ob hl (fun q => nomatch q))).trans d.ob, fun e he => (d.keys e he).keep t⟩, r.keep t⟩
theorem crel_val {K : PySem.W.Frag} {H : Hp} {m : Mrk} : ∀ {kvs : List (N3 (Lf ⊕ List Lf))} {cm : Cm}, CRel K H kvs cm → (valN kvs (markK m)).isSome = hasC cm m
 | _, _, .nil => rfl
 | e :: kvs, p :: cm, .cons a r => by
   have ih := crel_val (m := m) r
   unfold valN hasC at ih ⊢
   rw [List.find?_cons, List.any_cons, a.1]
   by_cases q : p.1 = m
   · rw [decide_eq_true q, decide_eq_true (by rw [q])]; rfl
   · rw [decide_eq_false q, decide_eq_false (fun z => q (markK_inj.mp z)), Bool.false_or]; exact ih
theorem crel_len {K : PySem.W.Frag} {H : Hp} {kvs : List (N3 (Lf ⊕ List Lf))} {cm : Cm} (h : CRel K H kvs cm) : kvs.length = cm.length := Paired.length h
theorem hasC_mem {cm : Cm} {m : Mrk} : hasC cm m = true ↔ m ∈ cm.map (·.1) := by
 unfold hasC
 rw [List.any_eq_true, List.mem_map]
 constructor
 · rintro ⟨e, he, q⟩; exact ⟨e, he, of_decide_eq_true q⟩
 · rintro ⟨e, he, q⟩; exact ⟨e, he, decide_eq_true q⟩
structure InU (U : List Mrk) (cm : Cm) : Prop where
 nd : (cm.map (·.1)).Nodup
 sub : ∀ m ∈ cm.map (·.1), m ∈ U
theorem InU.len {U : List Mrk} {cm : Cm} (h : InU U cm) : cm.length ≤ U.length := by
 have := List.Nodup.length_le_of_subset h.nd (fun m hm => h.sub m hm)
 rw [List.length_map] at this
 exact this
theorem visC_in {U : List Mrk} {p : Mrk} {acc : Cm × List Mrk} {e : Nat × Mrk} (h : InU U acc.1) (he : e.2 ∈ U) : InU U (visC p acc e).1 := by
 unfold visC
 by_cases q : hasC acc.1 e.2 = true
 · rw [if_pos q]; exact h
 · rw [if_neg q]
   refine ⟨?_, fun m hm => ?_⟩
   · rw [List.map_append, List.nodup_append]
     refine ⟨h.nd, by simp, fun a ha b hb z => q (hasC_mem.mpr ?_)⟩
     rw [List.mem_singleton.mp hb] at z
     have z : a = e.2 := z
     rw [z] at ha; exact ha
   · rw [List.map_append] at hm
     rcases List.mem_append.mp hm with hm | hm
     · exact h.sub m hm
     · rw [List.mem_singleton.mp hm]; exact he
theorem visC_len (p : Mrk) (acc : Cm × List Mrk) (e : Nat × Mrk) : (visC p acc e).1.length + acc.2.length = acc.1.length + (visC p acc e).2.length := by
 unfold visC
 split
 · rfl
 · rw [List.length_append, List.length_append]; show acc.1.length + 1 + _ = _ + (_ + 1); omega

theorem Nd.one {P : Program} {w : World} {K : PySem.W.Frag} {H : Hp} {a b : Addr} {k : List (Lf ⊕ List Lf)} {v : V} (h : H a = some (dN (ZM P w) (ZM_lev P w) a [])) (e : KAt (YM P w K) H k b) : Nd (YM P w K) (ZM_lev P w) (upd H a (dN (ZM P w) (ZM_lev P w) a [(k, b, v)])) a [(k, b, v)] := by
 refine ⟨upd_same, fun p hp => ?_⟩
 rw [List.mem_singleton.mp hp]
 exact e.keep (dN_tup h)
theorem CameAt.one {P : Program} {w : World} {K : PySem.W.Frag} {H : Hp} {a b : Addr} {m : Mrk} (h : H a = some (dN (ZM P w) (ZM_lev P w) a [])) (hm : MrkAt K H m (.ref b)) : CameAt P w K (upd H a (dN (ZM P w) (ZM_lev P w) a [(markK m, b, .non)])) a [(m, none)] := by
 obtain ⟨b', s, e1, e2, e3⟩ := hm
 cases e1
 have t := dN_tup (F := K) h (o := dN (ZM P w) (ZM_lev P w) a [(markK m, b, .non)])
 exact ⟨_, Nd.one h (mark_at e2 e3), .cons ⟨rfl, ⟨b, s, rfl, t _ _ e2, t _ _ e3⟩, rfl⟩ .nil⟩
theorem CameAt.put {P : Program} {w : World} {K : PySem.W.Frag} {H : Hp} {a b : Addr} {m : Mrk} {cm : Cm} {kvs : List (N3 (Lf ⊕ List Lf))} {x : Option (Mrk × Nat)} {v : V} (d : Nd (YM P w K) (ZM_lev P w) H a kvs) (r : CRel K H kvs cm) (hm : MrkAt K H m (.ref b)) (hn : hasC cm m = false) (hv : linkV K x H v) :
   CameAt P w K (upd H a (dN (ZM P w) (ZM_lev P w) a (putN kvs (markK m) b v))) a (cm ++ [(m, x)]) := by
 obtain ⟨b', s, e1, e2, e3⟩ := id hm
 cases e1
 have t := dN_tup (F := K) d.ob (o := dN (ZM P w) (ZM_lev P w) a (putN kvs (markK m) b v))
 refine ⟨_, d.put (mark_at e2 e3), ?_⟩
 have q := crel_val (m := m) r
 rw [hn] at q
 have hv0 : valN kvs (markK m) = none := by
   cases z : valN kvs (markK m) with
   | none => rfl
   | some y => rw [z] at q; cases q
 rw [putN_new hv0]
 rw [putN_new hv0] at t
 exact paired_app (r.keep t) (.cons ⟨rfl, hm.keep t, hv.keep t⟩ .nil)
theorem Leds.keep {K : PySem.W.Frag} {H H' : Hp} (t1 : ∀ b xs, H b = some (.tup xs) → H' b = some (.tup xs)) (t : ∀ b xs, SqT K H b xs → SqT K H' b xs) : ∀ {vs : List V} {es : List (Nat × Mrk)}, Leds K H vs es → Leds K H' vs es
 | _, _, .nil => .nil
 | _, _, .cons ⟨x, w, e, h, q⟩ r => .cons ⟨x, w, e, t1 _ _ h, q.keep t⟩ (Leds.keep t1 t r)
abbrev Mrks (K : PySem.W.Frag) (H : Hp) : List V → List Mrk → Prop := Paired fun v m => MrkAt K H m v
theorem Mrks.keep {K : PySem.W.Frag} {H H' : Hp} (t : ∀ b xs, SqT K H b xs → SqT K H' b xs) : ∀ {vs : List V} {ms : List Mrk}, Mrks K H vs ms → Mrks K H' vs ms
 | _, _, .nil => .nil
 | _, _, .cons a r => .cons (a.keep t) (Mrks.keep t r)

theorem find_at {α : Type} {f : α → Bool} {l : List α} {i : Nat} {m : α} (hi : l[i]? = some m) (hg : f m = true) (hb : ∀ m' ∈ l.take i, f m' = false) : l.find? f = some m := by
 have e : l = l.take i ++ m :: l.drop (i + 1) := by
   obtain ⟨h1, h2⟩ := List.getElem?_eq_some_iff.mp hi
   rw [← h2, ← List.drop_eq_getElem_cons h1, List.take_append_drop]
 rw [e, List.find?_append, List.find?_eq_none.mpr (fun x hx => by rw [hb x hx]; decide), List.find?_cons, hg]
 rfl
theorem find_no {α : Type} {f : α → Bool} {l : List α} (hb : ∀ m' ∈ l, f m' = false) : l.find? f = none := List.find?_eq_none.mpr fun x hx => by rw [hb x hx]; decide
theorem vis_lens {p : Mrk} : ∀ (es : List (Nat × Mrk)) (acc : Cm × List Mrk), (es.foldl (visC p) acc).1.length + acc.2.length = acc.1.length + (es.foldl (visC p) acc).2.length
 | [], _ => rfl
 | e :: es, acc => by
   have h1 := visC_len p acc e
   have h2 := vis_lens (p := p) es (visC p acc e)
   rw [List.foldl_cons]; omega
theorem exp_lens {led : Mrk → List (Nat × Mrk)} : ∀ (ms : List Mrk) (acc : Cm × List Mrk), (ms.foldl (expC led) acc).1.length + acc.2.length = acc.1.length + (ms.foldl (expC led) acc).2.length
 | [], _ => rfl
 | m :: ms, acc => by
   have h1 := vis_lens (p := m) (led m) acc
   have h2 := exp_lens (led := led) ms (expC led acc m)
   rw [List.foldl_cons]
   unfold expC at h2 ⊢
   omega
def m0 : Mrk := ((Str.ofString "row", Str.ofString ""), 0)
def gdM (ts : List (Str × Str)) (m : Mrk) : Bool := decide (m = ((Str.ofString "row", Str.ofString ""), ts.length))

def valC (cm : Cm) (m : Mrk) : Option (Option (Mrk × Nat)) := (cm.find? fun e => decide (e.1 = m)).map (·.2)
inductive LinkC (cm : Cm) : Option (Mrk × Nat) → List Nat → Prop where
 | nil : LinkC cm none []
 | cons {m : Mrk} {c : Nat} {x : Option (Mrk × Nat)} {r : List Nat} : valC cm m = some x → LinkC cm x r → LinkC cm (some (m, c)) (c :: r)
theorem crel_get {K : PySem.W.Frag} {H : Hp} {m : Mrk} {x : Option (Mrk × Nat)} : ∀ {kvs : List (N3 (Lf ⊕ List Lf))} {cm : Cm}, CRel K H kvs cm → valC cm m = some x → ∃ v, valN kvs (markK m) = some v ∧ linkV K x H v
 | _, _, .nil, h => by cases h
 | e :: kvs, p :: cm, .cons a r, h => by
   unfold valC at h
   unfold valN
   rw [List.find?_cons] at h ⊢
   rw [a.1]
   by_cases q : p.1 = m
   · rw [decide_eq_true q] at h
     rw [decide_eq_true (by rw [q])]
     cases h
     exact ⟨_, rfl, a.2.2⟩
   · rw [decide_eq_false q] at h
     rw [decide_eq_false (fun z => q (markK_inj.mp z))]
     exact crel_get r h
theorem sgs_sum : ∀ (xs : List Nat), ((xs.map sg).map (·.length)).sum = xs.length
 | [] => rfl
 | x :: xs => by rw [List.map_cons, List.map_cons, List.sum_cons, sgs_sum xs, sg_len, List.length_cons]; omega
inductive WalkC (led : Mrk → List (Nat × Mrk)) (a : Mrk) : List Nat → Mrk → Prop where
 | nil : WalkC led a [] a
 | snoc {xs : List Nat} {p q : Mrk} {c : Nat} : WalkC led a xs p → (c, q) ∈ led p → WalkC led a (xs ++ [c]) q
theorem valC_app {cm l : Cm} {m : Mrk} {x : Option (Mrk × Nat)} (h : valC cm m = some x) : valC (cm ++ l) m = some x := by
 unfold valC at h ⊢
 rw [List.find?_append]
 cases e : cm.find? fun e => decide (e.1 = m) with
 | none => rw [e] at h; cases h
 | some y => rw [e] at h; exact h
theorem valC_new {cm : Cm} {m : Mrk} {x : Option (Mrk × Nat)} (h : hasC cm m = false) : valC (cm ++ [(m, x)]) m = some x := by
 unfold valC
 rw [List.find?_append, List.find?_eq_none.mpr, List.find?_cons, decide_eq_true rfl]
 · rfl
 · intro e he q
   have z : hasC cm m = true := List.any_eq_true.mpr ⟨e, he, q⟩
   rw [h] at z; cases z
theorem LinkC.app {cm l : Cm} {x : Option (Mrk × Nat)} {xs : List Nat} (h : LinkC cm x xs) : LinkC (cm ++ l) x xs := by
 induction h with
 | nil => exact .nil
 | cons e _ ih => exact .cons (valC_app e) ih
theorem hasC_app {cm l : Cm} {m : Mrk} : hasC (cm ++ l) m = (hasC cm m || hasC l m) := List.any_append ..
theorem hasC_one {m q : Mrk} {x : Option (Mrk × Nat)} : hasC [(q, x)] m = true ↔ m = q := by
 unfold hasC
 rw [List.any_cons, List.any_nil, Bool.or_false]
 exact ⟨fun h => (of_decide_eq_true h).symm, fun h => decide_eq_true h.symm⟩
def ToldC (led : Mrk → List (Nat × Mrk)) (a : Mrk) (cm : Cm) (m : Mrk) (n : Nat) : Prop := ∃ x xs, valC cm m = some x ∧ LinkC cm x xs ∧ WalkC led a xs.reverse m ∧ xs.length = n
theorem ToldC.app {led : Mrk → List (Nat × Mrk)} {a m : Mrk} {cm l : Cm} {n : Nat} (h : ToldC led a cm m n) : ToldC led a (cm ++ l) m n := by
 obtain ⟨x, xs, h1, h2, h3, h4⟩ := h
 exact ⟨x, xs, valC_app h1, h2.app, h3, h4⟩
section
variable {good : Mrk → Bool} {led : Mrk → List (Nat × Mrk)} {a : Mrk}
structure Mid (led : Mrk → List (Nat × Mrk)) (a : Mrk) (cm : Cm) (k : Nat) (acc : Cm × List Mrk) : Prop where
 pre : ∃ l, acc.1 = cm ++ l
 told : ∀ m, hasC acc.1 m = true → ∃ n, n ≤ k + 1 ∧ ToldC led a acc.1 m n
 new : ∀ m ∈ acc.2, ToldC led a acc.1 m (k + 1) ∧ hasC acc.1 m = true
 old : ∀ m, hasC acc.1 m = true → hasC cm m = true ∨ m ∈ acc.2
theorem Mid.vis {cm : Cm} {k : Nat} {acc : Cm × List Mrk} {p : Mrk} {e : Nat × Mrk} (h : Mid led a cm k acc) (hp : ToldC led a acc.1 p k) (he : e ∈ led p) : Mid led a cm k (visC p acc e) ∧ hasC (visC p acc e).1 e.2 = true ∧ (∃ l, (visC p acc e).1 = acc.1 ++ l) := by
 unfold visC
 cases hh : hasC acc.1 e.2 with
 | true => rw [if_pos rfl]; exact ⟨h, hh, [], (List.append_nil _).symm⟩
 | false =>
   rw [if_neg (by decide)]
   obtain ⟨x, xs, h1, h2, h3, h4⟩ := hp
   have hnew : ToldC led a (acc.1 ++ [(e.2, some (p, e.1))]) e.2 (k + 1) := by
     refine ⟨some (p, e.1), e.1 :: xs, valC_new hh, .cons (valC_app h1) h2.app, ?_, by rw [List.length_cons, h4]⟩
     rw [List.reverse_cons]
     exact .snoc h3 he
   have hhas : hasC (acc.1 ++ [(e.2, some (p, e.1))]) e.2 = true := by rw [hasC_app, hasC_one.mpr rfl, Bool.or_true]
   refine ⟨⟨?_, fun m hm => ?_, fun m hm => ?_, fun m hm => ?_⟩, hhas, _, rfl⟩
   · obtain ⟨l, q⟩ := h.pre
     exact ⟨l ++ [(e.2, some (p, e.1))], by show acc.1 ++ _ = _; rw [q, List.append_assoc]⟩
   · have hm : hasC (acc.1 ++ [(e.2, some (p, e.1))]) m = true := hm
     rw [hasC_app, Bool.or_eq_true] at hm
     rcases hm with z | z
     · obtain ⟨n, hn, t⟩ := h.told m z
       exact ⟨n, hn, t.app⟩
     · rw [hasC_one] at z; subst z
       exact ⟨_, Nat.le_refl _, hnew⟩
   · rcases List.mem_append.mp hm with z | z
     · obtain ⟨t, u⟩ := h.new m z
       exact ⟨t.app, by show hasC (acc.1 ++ _) m = true; rw [hasC_app, u]; rfl⟩
     · rw [List.mem_singleton.mp z]; exact ⟨hnew, hhas⟩
   · have hm : hasC (acc.1 ++ [(e.2, some (p, e.1))]) m = true := hm
     rw [hasC_app, Bool.or_eq_true] at hm
     rcases hm with z | z
     · rcases h.old m z with y | y
       · exact .inl y
       · exact .inr (List.mem_append_left _ y)
     · rw [hasC_one] at z; subst z
       exact .inr (List.mem_append_right _ (List.mem_singleton.mpr rfl))
theorem hasC_pre {cm l : Cm} {m : Mrk} (h : hasC cm m = true) : hasC (cm ++ l) m = true := by rw [hasC_app, h]; rfl
theorem Mid.viss {cm : Cm} {k : Nat} {p : Mrk} : ∀ {es : List (Nat × Mrk)} {acc : Cm × List Mrk}, Mid led a cm k acc → ToldC led a acc.1 p k → (∀ e ∈ es, e ∈ led p) →
   Mid led a cm k (es.foldl (visC p) acc) ∧ (∀ e ∈ es, hasC (es.foldl (visC p) acc).1 e.2 = true) ∧ ∃ l, (es.foldl (visC p) acc).1 = acc.1 ++ l
 | [], acc, h, _, _ => ⟨h, (fun _ z => nomatch z), [], (List.append_nil _).symm⟩
 | e :: es, acc, h, hp, he => by
   obtain ⟨h1, h2, l, h3⟩ := h.vis hp (he e (List.mem_cons_self ..))
   have hp1 : ToldC led a (visC p acc e).1 p k := by rw [h3]; exact hp.app
   obtain ⟨g1, g2, l', g3⟩ := Mid.viss h1 hp1 fun e' z => he e' (List.mem_cons_of_mem _ z)
   rw [List.foldl_cons]
   refine ⟨g1, fun e' z => ?_, l ++ l', by rw [g3, h3, List.append_assoc]⟩
   rcases List.mem_cons.mp z with y | y
   · subst y; rw [g3]; exact hasC_pre h2
   · exact g2 e' y
theorem Mid.exps {cm : Cm} {k : Nat} : ∀ {ms : List Mrk} {acc : Cm × List Mrk}, Mid led a cm k acc → (∀ p ∈ ms, ToldC led a acc.1 p k) →
   Mid led a cm k (ms.foldl (expC led) acc) ∧ (∀ p ∈ ms, ∀ e ∈ led p, hasC (ms.foldl (expC led) acc).1 e.2 = true) ∧ ∃ l, (ms.foldl (expC led) acc).1 = acc.1 ++ l
 | [], acc, h, _ => ⟨h, (fun _ z => nomatch z), [], (List.append_nil _).symm⟩
 | p :: ms, acc, h, hp => by
   obtain ⟨h1, h2, l, h3⟩ := h.viss (p := p) (es := led p) (hp p (List.mem_cons_self ..)) fun e z => z
   have h1 : Mid led a cm k (expC led acc p) := h1
   have h3 : (expC led acc p).1 = acc.1 ++ l := h3
   have h2 : ∀ e ∈ led p, hasC (expC led acc p).1 e.2 = true := h2
   obtain ⟨g1, g2, l', g3⟩ := Mid.exps h1 fun p' z => by rw [h3]; exact (hp p' (List.mem_cons_of_mem _ z)).app
   rw [List.foldl_cons]
   refine ⟨g1, fun p' z e' ze => ?_, l ++ l', by rw [g3, h3, List.append_assoc]⟩
   rcases List.mem_cons.mp z with y | y
   · subst y; rw [g3]; exact hasC_pre (h2 e' ze)
   · exact g2 p' y e' ze
structure Lev (good : Mrk → Bool) (led : Mrk → List (Nat × Mrk)) (a : Mrk) (cm : Cm) (edge : List Mrk) (k : Nat) : Prop where
 told : ∀ m, hasC cm m = true → ∃ n, n ≤ k ∧ ToldC led a cm m n
 edg : ∀ m ∈ edge, ToldC led a cm m k ∧ hasC cm m = true
 all : ∀ ys m, WalkC led a ys m → ys.length ≤ k → hasC cm m = true
 shut : ∀ p, hasC cm p = true → p ∉ edge → ∀ e ∈ led p, hasC cm e.2 = true
 bad : ∀ p, hasC cm p = true → p ∉ edge → good p = false
 less : ∀ ys m, WalkC led a ys m → ys.length < k → good m = false
theorem Lev.go {cm : Cm} {edge : List Mrk} {k : Nat} (h : Lev good led a cm edge k) (hf : edge.find? good = none) : Lev good led a (expand led cm edge).1 (expand led cm edge).2 (k + 1) := by
 have hm : Mid led a cm k (cm, []) := ⟨⟨[], (List.append_nil _).symm⟩, fun m hm => by obtain ⟨n, hn, t⟩ := h.told m hm; exact ⟨n, by omega, t⟩, (fun _ z => nomatch z), fun m hm => .inl hm⟩
 obtain ⟨g1, g2, l, g3⟩ := hm.exps (ms := edge) fun p hp => (h.edg p hp).1
 have hno : ∀ m ∈ edge, good m = false := fun m hm => by
   have := List.find?_eq_none.mp hf m hm
   cases e : good m with
   | true => exact absurd e this
   | false => rfl
 have hbad : ∀ p, hasC cm p = true → good p = false := fun p hp => by
   by_cases q : p ∈ edge
   · exact hno p q
   · exact h.bad p hp q
 have hshut : ∀ p, hasC cm p = true → ∀ e ∈ led p, hasC (expand led cm edge).1 e.2 = true := fun p hp e he => by
   by_cases q : p ∈ edge
   · exact g2 p q e he
   · unfold expand; rw [g3]; exact hasC_pre (h.shut p hp q e he)
 refine ⟨g1.told, g1.new, fun ys m hw hl => ?_, fun p hp hq e he => ?_, fun p hp hq => ?_, fun ys m hw hl => ?_⟩
 · cases hw with
   | nil => unfold expand; rw [g3]; exact hasC_pre (h.all [] a .nil (Nat.zero_le _))
   | @snoc xs p q c hw1 he =>
     rw [List.length_append] at hl
     exact hshut p (h.all xs p hw1 (by simpa using hl)) _ he
 · rcases g1.old p hp with z | z
   · exact hshut p z e he
   · exact absurd z hq
 · rcases g1.old p hp with z | z
   · exact hbad p z
   · exact absurd z hq
 · exact hbad m (h.all ys m hw (by omega))
theorem Lev.zero : Lev good led a [(a, none)] [a] 0 := by
 have hv : ToldC led a [(a, none)] a 0 := ⟨none, [], by unfold valC; rw [List.find?_cons, decide_eq_true rfl]; rfl, .nil, .nil, rfl⟩
 have ha : hasC [(a, none)] a = true := hasC_one.mpr rfl
 refine ⟨fun m hm => ?_, fun m hm => ?_, fun ys m hw hl => ?_, fun p hp hq => ?_, fun p hp hq => ?_, fun ys m hw hl => absurd hl (Nat.not_lt_zero _)⟩
 · rw [hasC_one.mp hm]; exact ⟨0, Nat.le_refl _, hv⟩
 · rw [List.mem_singleton.mp hm]; exact ⟨hv, ha⟩
 · cases hw with
   | nil => exact ha
   | snoc _ _ => rw [List.length_append] at hl; simp at hl
 · exact absurd (List.mem_singleton.mpr (hasC_one.mp hp)) hq
 · exact absurd (List.mem_singleton.mpr (hasC_one.mp hp)) hq
def OutC (good : Mrk → Bool) (led : Mrk → List (Nat × Mrk)) (a : Mrk) (cm' : Cm) (r : Option Mrk) : Prop :=
 match r with
 | some m => good m = true ∧ ∃ n, ToldC led a cm' m n ∧ ∀ ys m', WalkC led a ys m' → good m' = true → n ≤ ys.length
 | none => (∀ m, hasC cm' m = true → ∃ n, ToldC led a cm' m n) ∧ ∀ ys m', WalkC led a ys m' → hasC cm' m' = true ∧ good m' = false
theorem Lev.run {cm cm' : Cm} {edge : List Mrk} {r : Option Mrk} (h : RunC good led cm edge r cm') : ∀ {k : Nat}, Lev good led a cm edge k →
   OutC good led a cm' r := by
 induction h with
 | stop =>
   rename_i cm
   intro k L
   have hw : ∀ ys m', WalkC led a ys m' → hasC cm m' = true := fun ys m' hw => by
     induction hw with
     | nil => exact L.all [] a .nil (Nat.zero_le _)
     | snoc _ he ih => exact L.shut _ ih (fun z => nomatch z) _ he
   exact ⟨fun m hm => by obtain ⟨n, _, t⟩ := L.told m hm; exact ⟨n, t⟩, fun ys m' q => ⟨hw ys m' q, L.bad m' (hw ys m' q) fun z => nomatch z⟩⟩
 | found hf =>
   intro k L
   have hm := List.mem_of_find?_eq_some hf
   refine ⟨List.find?_some hf, k, (L.edg _ hm).1, fun ys m' hw hg => ?_⟩
   cases Nat.lt_or_ge ys.length k with
   | inl z => rw [L.less ys m' hw z] at hg; cases hg
   | inr z => exact z
 | go _ hf _ ih => intro k L; exact ih (L.go hf)
theorem run_out {cm : Cm} {r : Option Mrk} (h : RunC good led [(a, none)] [a] r cm) : OutC good led a cm r := Lev.run h Lev.zero
end

structure UOk (p q f : Str) (b1 b2 b3 b4 : Bool) (ts : List (Str × Str)) (U : List Mrk) : Prop where
 len : U.length ≤ 100000
 one : m0 ∈ U
 shut : ∀ m ∈ U, m.2 < ts.length → ∀ e ∈ ledM p q f b1 b2 b3 b4 ts m, e.2 ∈ U
 good : ∀ m ∈ U, m.2 < ts.length ∨ gdM ts m = true
theorem tok1_puts {z : Str} : ∀ t ∈ puts z, t.2.length ≤ 1 := fun t ht => by
 obtain ⟨k, _, rfl⟩ := List.mem_map.mp ht
 exact Nat.le_refl _
theorem tok1_C {r : List Str} : ∀ {n : Nat}, ∀ t ∈ tokC r n, t.2.length ≤ 1
 | 0, t, ht => nomatch ht
 | n + 1, t, ht => by
   rcases List.mem_append.mp ht with z | z
   · exact tok1_C t z
   · rcases List.mem_append.mp z with y | y
     · split at y
       · cases y
       · rw [List.mem_singleton.mp y]; exact Nat.zero_le _
     · exact tok1_puts t y
theorem tok1_tab {t : List (List Str)} : ∀ x ∈ tokTab t, x.2.length ≤ 1 := fun x hx => by
 obtain ⟨r, _, h⟩ := List.mem_flatMap.mp hx
 rcases List.mem_append.mp h with z | z
 · exact tok1_C x z
 · rw [List.mem_singleton.mp z]; exact Nat.zero_le _
def Shp (p q f u : Str) (c : Nat) (k w' u' : Str) : Prop :=
 (k = Str.ofString "skip" ∧ (inS c f = true ∨ inS c q = true ∨ isS (sg c) u = true ∨ isS (sg c) (Str.ofString " ") = true)) ∨ (k = Str.ofString "end" ∧ isS (sg c) (Str.ofString "\n") = true ∧ w' = Str.ofString "row" ∧ u' = Str.ofString "") ∨ (k = Str.ofString "part" ∧ inS c p = true) ∨ k = Str.ofString "put"
theorem step_shp {p q f : Str} {b1 b2 b3 b4 : Bool} {w u k w' u' : Str} {c : Nat} (h : stepM p q f b1 b2 b3 b4 w u c = .go k w' u') : Shp p q f u c k w' u' := by
 have hB : mBehind p b3 c = .go k w' u' → Shp p q f u c k w' u' := by
   intro h
   unfold mBehind at h
   repeat' split at h
   all_goals first
     | (cases h; done)
     | (cases h; exact .inr (.inl ⟨rfl, by assumption, rfl, rfl⟩))
     | (cases h; exact .inr (.inr (.inl ⟨rfl, by assumption⟩)))
     | (cases h; exact .inl ⟨rfl, .inr (.inr (.inr (by assumption)))⟩)
 unfold stepM at h
 split at h
 · unfold mWithin at h
   repeat' split at h
   all_goals first
     | (cases h; done)
     | (cases h; exact .inr (.inr (.inr rfl)))
     | (cases h; exact .inl ⟨rfl, .inl (by assumption)⟩)
     | (cases h; exact .inl ⟨rfl, .inr (.inr (.inl (by assumption)))⟩)
 split at h
 · unfold mFreed mFreedX at h
   repeat' split at h
   all_goals first
     | (cases h; done)
     | (cases h; exact .inr (.inr (.inr rfl)))
 split at h
 · unfold mDoubt at h
   split at h
   · cases h; exact .inr (.inr (.inr rfl))
   · exact hB h
 split at h
 · exact hB h
 unfold mOpen at h
 split at h
 · unfold mPlain at h
   repeat' split at h
   all_goals first
     | (cases h; done)
     | (cases h; exact .inr (.inr (.inr rfl)))
     | (cases h; exact .inr (.inl ⟨rfl, by assumption, rfl, rfl⟩))
     | (cases h; exact .inr (.inr (.inl ⟨rfl, by assumption⟩)))
     | (cases h; exact .inl ⟨rfl, .inl (by assumption)⟩)
 · unfold mBegin at h
   repeat' split at h
   all_goals first
     | (cases h; done)
     | (cases h; exact .inr (.inr (.inr rfl)))
     | (cases h; exact .inr (.inl ⟨rfl, by assumption, rfl, rfl⟩))
     | (cases h; exact .inr (.inr (.inl ⟨rfl, by assumption⟩)))
     | (cases h; exact .inl ⟨rfl, .inl (by assumption)⟩)
     | (cases h; exact .inl ⟨rfl, .inr (.inl (by assumption))⟩)
     | (cases h; exact .inl ⟨rfl, .inr (.inr (.inr (by assumption)))⟩)
theorem ends_skip : ¬ Str.ofString "skip" = Str.ofString "end" := ne_ofS (by decide +kernel)
theorem ends_put : ¬ Str.ofString "put" = Str.ofString "end" := ne_ofS (by decide +kernel)
theorem ends_part : ¬ Str.ofString "part" = Str.ofString "end" := ne_ofS (by decide +kernel)
theorem step_rowE {p q f : Str} {b1 b2 b3 b4 : Bool} {w u w' u' : Str} {c : Nat} (h : stepM p q f b1 b2 b3 b4 w u c = .go (Str.ofString "end") w' u') : (w', u') = (Str.ofString "row", Str.ofString "") := by
 rcases step_shp h with ⟨z, _⟩ | ⟨_, _, e1, e2⟩ | ⟨z, _⟩ | z
 · exact absurd z.symm ends_skip
 · rw [e1, e2]
 · exact absurd z.symm ends_part
 · exact absurd z.symm ends_put
def stL (q : Str) : List (Str × Str) := [(Str.ofString "row", Str.ofString ""), (Str.ofString "cell", Str.ofString ""), (Str.ofString "plain", Str.ofString ""), (Str.ofString "behind", Str.ofString ""), (Str.ofString "freed", Str.ofString "")] ++ q.cps.toList.flatMap fun c => [(Str.ofString "within", sg c), (Str.ofString "doubt", sg c), (Str.ofString "freed", sg c)]
theorem st_mem {q w u : Str} (h : StOk q w u) : (w, u) ∈ stL q := by
 unfold stL
 rcases h with ⟨rfl, rfl | rfl | rfl | rfl | rfl⟩ | ⟨d, hd, rfl, rfl | rfl | rfl⟩
 · exact List.mem_append_left _ (by simp)
 · exact List.mem_append_left _ (by simp)
 · exact List.mem_append_left _ (by simp)
 · exact List.mem_append_left _ (by simp)
 · exact List.mem_append_left _ (by simp)
 · exact List.mem_append_right _ (List.mem_flatMap.mpr ⟨d, hd, by simp⟩)
 · exact List.mem_append_right _ (List.mem_flatMap.mpr ⟨d, hd, by simp⟩)
 · exact List.mem_append_right _ (List.mem_flatMap.mpr ⟨d, hd, by simp⟩)
theorem stL_ok {q : Str} {s : Str × Str} (h : s ∈ stL q) : StOk q s.1 s.2 := by
 unfold stL at h
 rcases List.mem_append.mp h with z | z
 · simp only [List.mem_cons, List.not_mem_nil, or_false] at z
   rcases z with rfl | rfl | rfl | rfl | rfl
   · exact .inl ⟨rfl, .inl rfl⟩
   · exact .inl ⟨rfl, .inr (.inl rfl)⟩
   · exact .inl ⟨rfl, .inr (.inr (.inl rfl))⟩
   · exact .inl ⟨rfl, .inr (.inr (.inr (.inl rfl)))⟩
   · exact .inl ⟨rfl, .inr (.inr (.inr (.inr rfl)))⟩
 · obtain ⟨d, hd, y⟩ := List.mem_flatMap.mp z
   simp only [List.mem_cons, List.not_mem_nil, or_false] at y
   rcases y with rfl | rfl | rfl
   · exact .inr ⟨d, hd, rfl, .inl rfl⟩
   · exact .inr ⟨d, hd, rfl, .inr (.inl rfl)⟩
   · exact .inr ⟨d, hd, rfl, .inr (.inr rfl)⟩
theorem stL_len {p q f : Str} (g : Gd p q f) : (stL q).length ≤ 11 := by
 have e : ∀ l : List Nat, (l.flatMap fun c => [(Str.ofString "within", sg c), (Str.ofString "doubt", sg c), (Str.ofString "freed", sg c)]).length = 3 * l.length := by
   intro l
   induction l with
   | nil => rfl
   | cons a l ih => rw [List.flatMap_cons, List.length_append, ih]; show 3 + 3 * l.length = 3 * (l.length + 1); omega
 unfold stL
 rw [List.length_append, e]
 have : q.cps.toList.length ≤ 2 := by rw [Array.length_toList]; exact g.q2
 show 5 + _ ≤ 11
 omega
def EndsE (ts : List (Str × Str)) : Prop := ∀ n, n + 1 = ts.length → ts[n]? = some endT
theorem mrk_next {p q f : Str} {b1 b2 b3 b4 : Bool} {ts : List (Str × Str)} {m m' : Mrk} {c : Nat} (he : EndsE ts) (hm : m.2 < ts.length) (h : mrkM p q f b1 b2 b3 b4 ts m c = some m') (hq : StOk q m.1.1 m.1.2) : StOk q m'.1.1 m'.1.2 ∧ (m'.2 < ts.length ∨ m' = ((Str.ofString "row", Str.ofString ""), ts.length)) := by
 unfold mrkM liveStep at h
 cases hs : stepM p q f b1 b2 b3 b4 m.1.1 m.1.2 c with
 | flt e => rw [hs] at h; cases h
 | go k w u =>
   rw [hs] at h
   dsimp only at h
   by_cases hl : liveM f w u = true
   · rw [if_pos hl] at h
     dsimp only at h
     cases hc : cntM ts m.2 k (sg c) with
     | none => rw [hc] at h; cases h
     | some n =>
       rw [hc] at h
       cases h
       refine ⟨step_ok hq hs, ?_⟩
       unfold cntM at hc
       by_cases hsk : isS k (Str.ofString "skip") = true
       · rw [if_pos hsk] at hc; cases hc; exact .inl hm
       · rw [if_neg hsk] at hc
         by_cases ht : ts[m.2]? = some (k, if isS k (Str.ofString "put") = true then sg c else Str.ofString "")
         · rw [if_pos ht] at hc
           cases hc
           by_cases hz : m.2 + 1 = ts.length
           · have e := he _ hz
             rw [e] at ht
             have hk : k = Str.ofString "end" := by injection ht with ht; exact (congrArg Prod.fst ht).symm
             rw [hk] at hs
             have := step_rowE hs
             exact .inr (by show ((w, u), m.2 + 1) = _; rw [this, hz])
           · exact .inl (by show m.2 + 1 < _; omega)
         · rw [if_neg ht] at hc; cases hc
   · rw [if_neg hl] at h; cases h
def uL (q : Str) (ts : List (Str × Str)) : List Mrk := ((Str.ofString "row", Str.ofString ""), ts.length) :: (stL q).flatMap fun s => (List.range ts.length).map fun n => (s, n)
theorem uL_mem {q : Str} {ts : List (Str × Str)} {m : Mrk} : m ∈ uL q ts ↔ m = ((Str.ofString "row", Str.ofString ""), ts.length) ∨ (m.1 ∈ stL q ∧ m.2 < ts.length) := by
 unfold uL
 rw [List.mem_cons, List.mem_flatMap]
 constructor
 · rintro (e | ⟨s, hs, h⟩)
   · exact .inl e
   · obtain ⟨n, hn, rfl⟩ := List.mem_map.mp h
     exact .inr ⟨hs, List.mem_range.mp hn⟩
 · rintro (e | ⟨h1, h2⟩)
   · exact .inl e
   · exact .inr ⟨m.1, h1, List.mem_map.mpr ⟨m.2, List.mem_range.mpr h2, rfl⟩⟩
theorem uL_len {p q f : Str} (g : Gd p q f) (ts : List (Str × Str)) : (uL q ts).length ≤ 1 + 11 * ts.length := by
 have e : ∀ l : List (Str × Str), (l.flatMap fun s => (List.range ts.length).map fun n => (s, n)).length = l.length * ts.length := by
   intro l
   induction l with
   | nil => simp
   | cons a l ih => rw [List.flatMap_cons, List.length_append, ih, List.length_cons, List.length_map, List.length_range, Nat.succ_mul]; omega
 unfold uL
 rw [List.length_cons, e]
 have := Nat.mul_le_mul_right ts.length (stL_len g)
 omega
theorem led_mem {p q f : Str} {b1 b2 b3 b4 : Bool} {ts : List (Str × Str)} {m : Mrk} {e : Nat × Mrk} (h : e ∈ ledM p q f b1 b2 b3 b4 ts m) : mrkM p q f b1 b2 b3 b4 ts m e.1 = some e.2 := by
 unfold ledM at h
 split at h
 · cases h
 · obtain ⟨c, _, hc⟩ := List.mem_filterMap.mp h
   cases hm : mrkM p q f b1 b2 b3 b4 ts m c with
   | none => rw [hm] at hc; cases hc
   | some m' => rw [hm] at hc; cases hc; exact hm
theorem uok {p q f : Str} {b1 b2 b3 b4 : Bool} {ts : List (Str × Str)} (g : Gd p q f) (he : EndsE ts) (hl : ts.length ≤ 9000) : UOk p q f b1 b2 b3 b4 ts (uL q ts) := by
 refine ⟨Nat.le_trans (uL_len g ts) (by omega), ?_, fun m hm hlt e hE => ?_, fun m hm => ?_⟩
 · rw [uL_mem]
   cases ts with
   | nil => exact .inl rfl
   | cons a l => exact .inr ⟨st_mem (.inl ⟨rfl, .inl rfl⟩), Nat.zero_lt_succ _⟩
 · have hs : StOk q m.1.1 m.1.2 := by
     rcases uL_mem.mp hm with z | z
     · rw [z] at hlt; exact absurd hlt (Nat.lt_irrefl _)
     · exact stL_ok z.1
   obtain ⟨h1, h2⟩ := mrk_next he hlt (led_mem hE) hs
   rw [uL_mem]
   rcases h2 with z | z
   · exact .inr ⟨st_mem h1, z⟩
   · exact .inl z
 · rcases uL_mem.mp hm with z | z
   · exact .inr (decide_eq_true z)
   · exact .inl z.2

theorem sg_injW {a b : Nat} (h : sg a = sg b) : a = b := by
 have e : (sg a).cps.toList = (sg b).cps.toList := by rw [h]
 exact (List.cons.inj e).1
theorem specL_mem {c : Nat} : ∀ (l : List Nat) (acc : List Nat), c ∈ l.foldl stepS acc ↔ c ∈ acc ∨ c ∈ l
 | [], acc => by simp
 | a :: l, acc => by
   rw [List.foldl_cons, specL_mem l]
   unfold stepS
   by_cases h : away ⟨acc.toArray⟩ a = true
   · rw [if_pos h, List.mem_append, List.mem_singleton, List.mem_cons, or_assoc]
   · rw [if_neg h]
     have ha : a ∈ acc := by
       by_cases z : a ∈ acc
       · exact z
       · exact absurd ((away_iff _ _).mpr (by simpa using z)) h
     rw [List.mem_cons]
     constructor
     · rintro (z | z)
       · exact .inl z
       · exact .inr (.inr z)
     · rintro (z | z | z)
       · exact .inl z
       · subst z; exact .inl ha
       · exact .inr z
theorem specM_mem {c : Nat} {z : Str} : c ∈ (specM z).cps.toList ↔ c ∈ z.cps.toList := by
 show c ∈ (specL z.cps.toList).toArray.toList ↔ _
 unfold specL
 rw [show ((z.cps.toList.foldl stepS []).toArray).toList = z.cps.toList.foldl stepS [] from rfl, specL_mem]
 simp
theorem us_mem {p q f : Str} {c : Nat} : c ∈ (usM p q f).cps.toList ↔ c ∈ p.cps.toList ∨ c ∈ q.cps.toList ∨ c ∈ f.cps.toList ∨ c = 10 ∨ c = 32 := by
 unfold usM
 rw [app_list, app_list, List.mem_append, List.mem_append, specM_mem, app_list, app_list, List.mem_append, List.mem_append]
 have e1 : (Str.ofString "\n").cps.toList = [10] := by decide +kernel
 have e2 : (Str.ofString " ").cps.toList = [32] := by decide +kernel
 rw [e1, e2, List.mem_singleton, List.mem_singleton]
 simp only [or_assoc]
def tkM : List Str → List Nat → List (Str × Str)
 | k :: ks, c :: cs => (if isS k (Str.ofString "skip") = true then [] else [(k, if isS k (Str.ofString "put") = true then sg c else Str.ofString "")]) ++ tkM ks cs
 | _, _ => []
theorem sgn10 {c : Nat} (h : isS (sg c) (Str.ofString "\n") = true) : c = 10 := sg_injW ((isS_eq h).trans (by decide +kernel))
theorem sgn32 {c : Nat} (h : isS (sg c) (Str.ofString " ") = true) : c = 32 := sg_injW ((isS_eq h).trans (by decide +kernel))
theorem tried {p q f : Str} {b1 b2 b3 b4 : Bool} {ts : List (Str × Str)} {w u k w' u' : Str} {c n n' : Nat} (hq : StOk q w u) (hs : stepM p q f b1 b2 b3 b4 w u c = .go k w' u') (hl : liveM f w' u' = true) (hn : n < ts.length) (hc : cntM ts n k (sg c) = some n') : (c, ((w', u'), n')) ∈ ledM p q f b1 b2 b3 b4 ts ((w, u), n) := by
 have hm : mrkM p q f b1 b2 b3 b4 ts ((w, u), n) c = some ((w', u'), n') := by
   unfold mrkM liveStep
   dsimp only
   rw [hs]
   dsimp only
   rw [if_pos hl]
   dsimp only
   rw [hc]
 unfold ledM
 obtain ⟨t, ht⟩ : ∃ t, ts[n]? = some t := ⟨ts[n], List.getElem?_eq_getElem hn⟩
 dsimp only
 rw [ht]
 refine List.mem_filterMap.mpr ⟨c, ?_, by rw [hm]; rfl⟩
 rw [specM_mem, app_list, List.mem_append, us_mem]
 rcases step_shp hs with ⟨e, z⟩ | ⟨e, z, _⟩ | ⟨e, z⟩ | e
 · rcases z with z | z | z | z
   · exact .inl (.inr (.inr (.inl (in_q z))))
   · exact .inl (.inr (.inl (in_q z)))
   · rcases hq with ⟨rfl, _⟩ | ⟨d, hd, rfl, _⟩
     · exact absurd z (sg_ne c)
     · rw [sg_injW (isS_eq z)]; exact .inl (.inr (.inl hd))
   · exact .inl (.inr (.inr (.inr (.inr (sgn32 z)))))
 · exact .inl (.inr (.inr (.inr (.inl (sgn10 z)))))
 · exact .inl (.inl (in_q z))
 · subst e
   unfold cntM at hc
   rw [if_neg (ns (by decide +kernel)), if_pos (isS_self _), ht] at hc
   by_cases e : some t = some (Str.ofString "put", sg c)
   · injection e with e
     right
     rw [e]
     exact List.mem_singleton.mpr rfl
   · rw [if_neg e] at hc; cases hc
theorem dead_step {p q f : Str} {b1 b2 b3 b4 : Bool} {w u k w' u' : Str} {c : Nat} (h : StOk q w u) (hl : liveM f w u = false) (hs : stepM p q f b1 b2 b3 b4 w u c = .go k w' u') : liveM f w' u' = false := by
 have key : ∀ {d : Nat} {w : Str}, (w = Str.ofString "within" ∨ w = Str.ofString "freed") → inS d f = true → liveM f w (sg d) = false := by
   intro d w hw hd
   unfold liveM
   have e : nin (sg d) f = !(inS d f) := rfl
   rcases hw with rfl | rfl
   · rw [if_neg (sg_ne d), if_neg (ns (by decide +kernel)), e, hd]; rfl
   · rw [if_neg (sg_ne d), if_neg (ns (by decide +kernel)), e, hd]; rfl
 have hdf : ∀ {d : Nat} {w : Str}, liveM f w (sg d) = false → inS d f = true := by
   intro d w hl
   unfold liveM at hl
   rw [if_neg (sg_ne d)] at hl
   split at hl
   · cases hl
   · have e : nin (sg d) f = !(inS d f) := rfl
     rw [e] at hl
     cases hx : inS d f with
     | true => rfl
     | false => rw [hx] at hl; cases hl
 rcases h with ⟨rfl, _⟩ | ⟨d, hd, rfl, rfl | rfl | rfl⟩
 · unfold liveM at hl; rw [if_pos (isS_self _)] at hl; cases hl
 · have hf := hdf hl
   rw [sm_within (isS_self _)] at hs
   unfold mWithin at hs
   by_cases hcf : inS c f = true
   · rw [if_pos hcf] at hs; cases hs; exact key (.inr rfl) hf
   · rw [if_neg hcf] at hs
     have hcd : ¬ isS (sg c) (sg d) = true := fun z => by rw [sg_injW (isS_eq z)] at hcf; exact hcf hf
     rw [if_neg hcd] at hs
     repeat' split at hs
     all_goals first
       | (cases hs; done)
       | (cases hs; exact key (.inl rfl) hf)
 · unfold liveM at hl; rw [if_neg (sg_ne d), if_pos (isS_self _)] at hl; cases hl
 · have hf := hdf hl
   rw [sm_freed (isS_self _)] at hs
   unfold mFreed mFreedX at hs
   rw [if_neg (sg_ne d)] at hs
   repeat' split at hs
   all_goals first
     | (cases hs; done)
     | (cases hs; exact key (.inl rfl) hf)
theorem row_live (f : Str) : liveM f (Str.ofString "row") (Str.ofString "") = true := by unfold liveM; rw [if_pos (isS_self _)]
theorem dead_run {p q f : Str} {b1 b2 b3 b4 : Bool} : ∀ {cs : List Nat} {w u : Str}, StOk q w u → liveM f w u = false → (runM p q f b1 b2 b3 b4 w u cs).2 ≠ (Str.ofString "row", Str.ofString "", none)
 | [], w, u, _, hl => fun e => by
   have e : (w, u, (none : Option Str)) = (Str.ofString "row", Str.ofString "", none) := e
   injection e with e1 e2
   injection e2 with e2 _
   rw [e1, e2, row_live] at hl
   cases hl
 | c :: cs, w, u, h, hl => by
   unfold runM
   cases hs : stepM p q f b1 b2 b3 b4 w u c with
   | flt e => dsimp only; intro z; injection z with _ z; injection z with _ z; cases z
   | go k w' u' => exact dead_run (step_ok h hs) (dead_step h hl hs)
theorem walk_of_run {p q f : Str} {b1 b2 b3 b4 : Bool} {ts : List (Str × Str)} {a : Mrk} (he : EndsE ts) : ∀ {cs : List Nat} {w u : Str} {n : Nat} {pre : List Nat}, StOk q w u → WalkC (ledM p q f b1 b2 b3 b4 ts) a pre ((w, u), n) → n ≤ ts.length → (n = ts.length → (w, u) = (Str.ofString "row", Str.ofString "")) →
   (runM p q f b1 b2 b3 b4 w u cs).2 = (Str.ofString "row", Str.ofString "", none) → ts.drop n = tkM (runM p q f b1 b2 b3 b4 w u cs).1 cs → ∃ ds, ds.length ≤ cs.length ∧ WalkC (ledM p q f b1 b2 b3 b4 ts) a (pre ++ ds) ((Str.ofString "row", Str.ofString ""), ts.length) := by
 intro cs
 induction cs with
 | nil =>
   intro w u n pre hq hw hn hr _ ht
   have e : n = ts.length := by
     have : (ts.drop n).length = 0 := by rw [ht]; rfl
     rw [List.length_drop] at this
     omega
   have hr := hr e
   rw [e, hr] at hw
   exact ⟨[], Nat.le_refl _, by rw [List.append_nil]; exact hw⟩
 | cons c cs ih =>
   intro w u n pre hq hw hn hr hrun ht
   by_cases e : n = ts.length
   · have hr := hr e
     rw [e, hr] at hw
     exact ⟨[], Nat.zero_le _, by rw [List.append_nil]; exact hw⟩
   have hlt : n < ts.length := by omega
   unfold runM at hrun ht
   cases hs : stepM p q f b1 b2 b3 b4 w u c with
   | flt e => rw [hs] at hrun; dsimp only at hrun; injection hrun with _ z; injection z with _ z; cases z
   | go k w' u' =>
     rw [hs] at hrun ht
     dsimp only at hrun ht
     have hl : liveM f w' u' = true := by
       cases z : liveM f w' u' with
       | true => rfl
       | false => exact absurd hrun (dead_run (step_ok hq hs) z)
     unfold tkM at ht
     by_cases hk : isS k (Str.ofString "skip") = true
     · rw [if_pos hk, List.nil_append] at ht
       have hc : cntM ts n k (sg c) = some n := by unfold cntM; rw [if_pos hk]
       obtain ⟨ds, h1, h2⟩ := ih (step_ok hq hs) (.snoc hw (tried hq hs hl hlt hc)) hn (fun z => absurd z e) hrun ht
       exact ⟨c :: ds, Nat.succ_le_succ h1, by rw [List.append_assoc] at h2; exact h2⟩
     · rw [if_neg hk] at ht
       have hx : ts[n]? = some (k, if isS k (Str.ofString "put") = true then sg c else Str.ofString "") := by
         have := congrArg List.head? ht
         rw [List.head?_drop] at this
         exact this
       have hd : ts.drop (n + 1) = tkM (runM p q f b1 b2 b3 b4 w' u' cs).1 cs := by
         have := congrArg List.tail ht
         rw [List.tail_drop] at this
         exact this
       have hc : cntM ts n k (sg c) = some (n + 1) := by unfold cntM; rw [if_neg hk, if_pos hx]
       have hrow : n + 1 = ts.length → (w', u') = (Str.ofString "row", Str.ofString "") := fun z => by
         have e1 := he n z
         rw [hx] at e1
         have hk : k = Str.ofString "end" := by injection e1 with e1; exact congrArg Prod.fst e1
         rw [hk] at hs
         exact step_rowE hs
       obtain ⟨ds, h1, h2⟩ := ih (step_ok hq hs) (.snoc hw (tried hq hs hl hlt hc)) hlt hrow hrun hd
       exact ⟨c :: ds, Nat.succ_le_succ h1, by rw [List.append_assoc] at h2; exact h2⟩
theorem tkM_app : ∀ {ks : List Str} {cs : List Nat} {ks' : List Str} {cs' : List Nat}, ks.length = cs.length → tkM (ks ++ ks') (cs ++ cs') = tkM ks cs ++ tkM ks' cs'
 | [], [], _, _, _ => rfl
 | k :: ks, c :: cs, ks', cs', h => by
   show _ ++ tkM (ks ++ ks') (cs ++ cs') = (_ ++ tkM ks cs) ++ _
   rw [tkM_app (by simpa using h), List.append_assoc]
theorem run_klen {p q f : Str} {b1 b2 b3 b4 : Bool} : ∀ {cs : List Nat} {w u : Str}, (runM p q f b1 b2 b3 b4 w u cs).2.2.2 = none → (runM p q f b1 b2 b3 b4 w u cs).1.length = cs.length
 | [], _, _, _ => rfl
 | c :: cs, w, u, h => by
   unfold runM at h ⊢
   cases hs : stepM p q f b1 b2 b3 b4 w u c with
   | flt e => rw [hs] at h; cases h
   | go k w' u' => rw [hs] at h; show _ + 1 = _ + 1; rw [run_klen h]
theorem run_of_walk {p q f : Str} {b1 b2 b3 b4 : Bool} {ts : List (Str × Str)} {cs : List Nat} {m : Mrk} (h : WalkC (ledM p q f b1 b2 b3 b4 ts) m0 cs m) :
   (runM p q f b1 b2 b3 b4 (Str.ofString "row") (Str.ofString "") cs).2 = (m.1.1, m.1.2, none) ∧ tkM (runM p q f b1 b2 b3 b4 (Str.ofString "row") (Str.ofString "") cs).1 cs = ts.take m.2 := by
 induction h with
 | nil => exact ⟨rfl, rfl⟩
 | @snoc xs m m' c _ hE ih =>
   obtain ⟨i1, i2⟩ := ih
   have hM := led_mem hE
   have h0 : (runM p q f b1 b2 b3 b4 (Str.ofString "row") (Str.ofString "") xs).2.2.2 = none := by rw [i1]
   have ea := run_appZ (ds := [c]) h0
   rw [i1] at ea
   dsimp only at ea
   unfold mrkM liveStep at hM
   dsimp only at hM
   cases hs : stepM p q f b1 b2 b3 b4 m.1.1 m.1.2 c with
   | flt e => rw [hs] at hM; cases hM
   | go k w u =>
     rw [hs] at hM
     dsimp only at hM
     by_cases hl : liveM f w u = true
     · rw [if_pos hl] at hM
       dsimp only at hM
       cases hc : cntM ts m.2 k (sg c) with
       | none => rw [hc] at hM; cases hM
       | some n =>
         rw [hc] at hM
         cases hM
         have e1 : runM p q f b1 b2 b3 b4 m.1.1 m.1.2 [c] = ([k], w, u, none) := by
           unfold runM
           rw [hs]
           rfl
         rw [e1] at ea
         rw [ea]
         refine ⟨rfl, ?_⟩
         show tkM (_ ++ [k]) (xs ++ [c]) = _
         rw [tkM_app (run_klen h0), i2]
         unfold cntM at hc
         by_cases hk : isS k (Str.ofString "skip") = true
         · rw [if_pos hk] at hc
           cases hc
           unfold tkM
           rw [if_pos hk]
           exact List.append_nil _
         · rw [if_neg hk] at hc
           by_cases ht : ts[m.2]? = some (k, if isS k (Str.ofString "put") = true then sg c else Str.ofString "")
           · rw [if_pos ht] at hc
             cases hc
             unfold tkM
             rw [if_neg hk]
             show _ = ts.take (m.2 + 1)
             rw [take_snocG ht]
             rfl
           · rw [if_neg ht] at hc; cases hc
     · rw [if_neg hl] at hM; cases hM

section
variable {p q f : Str} {b1 b2 b3 b4 : Bool}
def Rd0 (p q f : Str) (b1 b2 b3 b4 : Bool) (w u : Str) (ts : List (Str × Str)) (cs : List Nat) : Prop := (runM p q f b1 b2 b3 b4 w u cs).2 = (Str.ofString "row", Str.ofString "", none) ∧ tkM (runM p q f b1 b2 b3 b4 w u cs).1 cs = ts
abbrev RdT (p q f : Str) (b1 b2 b3 b4 : Bool) (ts : List (Str × Str)) (cs : List Nat) : Prop := Rd0 p q f b1 b2 b3 b4 (Str.ofString "row") (Str.ofString "") ts cs
theorem RdT.walk {ts : List (Str × Str)} {cs : List Nat} (he : EndsE ts) (h : RdT p q f b1 b2 b3 b4 ts cs) : ∃ ds, ds.length ≤ cs.length ∧ WalkC (ledM p q f b1 b2 b3 b4 ts) m0 ds ((Str.ofString "row", Str.ofString ""), ts.length) :=
 walk_of_run (pre := []) he (.inl ⟨rfl, .inl rfl⟩) .nil (Nat.zero_le _) (fun _ => rfl) h.1 (by rw [h.2]; rfl)
theorem walk_rdT {ts : List (Str × Str)} {cs : List Nat} {m : Mrk} (h : WalkC (ledM p q f b1 b2 b3 b4 ts) m0 cs m) (hg : gdM ts m = true) : RdT p q f b1 b2 b3 b4 ts cs := by
 obtain ⟨h1, h2⟩ := run_of_walk h
 have e := of_decide_eq_true hg
 rw [e] at h1 h2
 exact ⟨h1, by rw [h2]; exact List.take_length⟩
theorem RdT.app {ts ts' : List (Str × Str)} {cs cs' : List Nat} (h : RdT p q f b1 b2 b3 b4 ts cs) (h' : RdT p q f b1 b2 b3 b4 ts' cs') : RdT p q f b1 b2 b3 b4 (ts ++ ts') (cs ++ cs') := by
 have h0 : (runM p q f b1 b2 b3 b4 (Str.ofString "row") (Str.ofString "") cs).2.2.2 = none := by rw [h.1]
 have ea := run_appZ (ds := cs') h0
 rw [h.1] at ea
 dsimp only at ea
 refine ⟨by rw [ea]; exact h'.1, ?_⟩
 rw [ea]
 show tkM (_ ++ _) (cs ++ cs') = _
 rw [tkM_app (run_klen h0), h.2, h'.2]
theorem Rd0.split {ts ts' : List (Str × Str)} : ∀ {cs : List Nat} {w u : Str}, EndsE ts → (ts = [] → (w, u) = (Str.ofString "row", Str.ofString "")) → Rd0 p q f b1 b2 b3 b4 w u (ts ++ ts') cs → ∃ c1 c2, cs = c1 ++ c2 ∧ Rd0 p q f b1 b2 b3 b4 w u ts c1 ∧ RdT p q f b1 b2 b3 b4 ts' c2 := by
 intro cs
 induction cs generalizing ts with
 | nil =>
   intro w u he hr h
   have e : ts ++ ts' = [] := h.2.symm
   obtain ⟨e1, e2⟩ := List.append_eq_nil_iff.mp e
   subst e1 e2
   exact ⟨[], [], rfl, h, rfl, rfl⟩
 | cons c cs ih =>
   intro w u he hr h
   cases ts with
   | nil =>
     have e := hr rfl
     injection e with e1 e2
     subst e1 e2
     exact ⟨[], c :: cs, rfl, ⟨rfl, rfl⟩, h⟩
   | cons t ts =>
     obtain ⟨h1, h2⟩ := h
     unfold runM at h1 h2
     cases hs : stepM p q f b1 b2 b3 b4 w u c with
     | flt e => rw [hs] at h1; dsimp only at h1; injection h1 with _ z; injection z with _ z; cases z
     | go k w' u' =>
       rw [hs] at h1 h2
       dsimp only at h1 h2
       unfold tkM at h2
       have hrun : ∀ c1, runM p q f b1 b2 b3 b4 w u (c :: c1) = (k :: (runM p q f b1 b2 b3 b4 w' u' c1).1, (runM p q f b1 b2 b3 b4 w' u' c1).2) := fun c1 => by
         show (match stepM p q f b1 b2 b3 b4 w u c with | .flt e => ([], w, u, some e) | .go k w' u' => (k :: (runM p q f b1 b2 b3 b4 w' u' c1).1, (runM p q f b1 b2 b3 b4 w' u' c1).2)) = _
         rw [hs]
       by_cases hk : isS k (Str.ofString "skip") = true
       · rw [if_pos hk, List.nil_append] at h2
         obtain ⟨c1, c2, e, g1, g2⟩ := ih (ts := t :: ts) he (fun z => nomatch z) ⟨h1, h2⟩
         refine ⟨c :: c1, c2, by rw [e]; rfl, ⟨by rw [hrun]; exact g1.1, ?_⟩, g2⟩
         rw [hrun]
         unfold tkM
         rw [if_pos hk, List.nil_append]
         exact g1.2
       · rw [if_neg hk] at h2
         have h2 : (k, if isS k (Str.ofString "put") = true then sg c else Str.ofString "") :: tkM (runM p q f b1 b2 b3 b4 w' u' cs).1 cs = t :: (ts ++ ts') := h2
         injection h2 with e1 e2
         have he' : EndsE ts := fun n hn => by
           have := he (n + 1) (by rw [List.length_cons, ← hn])
           rw [List.getElem?_cons_succ] at this
           exact this
         obtain ⟨c1, c2, e, g1, g2⟩ := ih (ts := ts) he' (fun z => by
           subst z
           have := he 0 rfl
           have e3 : t = endT := by simpa using this
           rw [e3] at e1
           have hk : k = Str.ofString "end" := congrArg Prod.fst e1
           rw [hk] at hs
           exact step_rowE hs) ⟨h1, e2⟩
         refine ⟨c :: c1, c2, by rw [e]; rfl, ⟨by rw [hrun]; exact g1.1, ?_⟩, g2⟩
         rw [hrun]
         unfold tkM
         rw [if_neg hk, g1.2, e1]
         rfl
def LeastT (p q f : Str) (b1 b2 b3 b4 : Bool) (ts : List (Str × Str)) (n : Nat) : Prop := (∃ cs, RdT p q f b1 b2 b3 b4 ts cs ∧ cs.length = n) ∧ ∀ cs, RdT p q f b1 b2 b3 b4 ts cs → n ≤ cs.length
theorem LeastT.one {ts : List (Str × Str)} {n n' : Nat} (h : LeastT p q f b1 b2 b3 b4 ts n) (h' : LeastT p q f b1 b2 b3 b4 ts n') : n = n' := by
 obtain ⟨⟨cs, r, e⟩, m⟩ := h
 obtain ⟨⟨cs', r', e'⟩, m'⟩ := h'
 have := m cs' r'
 have := m' cs r
 omega
theorem least_of {ts : List (Str × Str)} {cs : List Nat} {m : Mrk} (he : EndsE ts) (h : WalkC (ledM p q f b1 b2 b3 b4 ts) m0 cs m) (hg : gdM ts m = true) (hmin : ∀ ys m, WalkC (ledM p q f b1 b2 b3 b4 ts) m0 ys m → gdM ts m = true → cs.length ≤ ys.length) : RdT p q f b1 b2 b3 b4 ts cs ∧ LeastT p q f b1 b2 b3 b4 ts cs.length := by
 have r := walk_rdT h hg
 refine ⟨r, ⟨cs, r, rfl⟩, fun ds rd => ?_⟩
 obtain ⟨es, h1, h2⟩ := rd.walk he
 exact Nat.le_trans (hmin es _ h2 (decide_eq_true rfl)) h1
end
theorem puts_em : puts (Str.ofString "") = [] := by decide +kernel
theorem endsE_tab {t : List (List Str)} : EndsE (tokTab t) := by
 intro n hn
 rcases List.eq_nil_or_concat t with e | ⟨l, r, e⟩
 · rw [e] at hn; exact absurd hn (Nat.succ_ne_zero _)
 · rw [List.concat_eq_append] at e
   subst e
   rw [tokTab_snoc] at hn ⊢
   unfold tokRow at hn ⊢
   rw [← List.append_assoc] at hn ⊢
   rw [List.length_append] at hn
   have e : n = (tokTab l ++ tokC r r.length).length := by simpa using hn
   rw [e, List.getElem?_append_right (Nat.le_refl _), Nat.sub_self]
   rfl
theorem join_sgs (cs : List Nat) : (Txt.join (Str.ofString "") (cs.map sg)).cps.toList = cs := by
 have ee : (Str.ofString "").cps.toList = [] := by decide +kernel
 show (Builtin.Str.glued (Str.ofString "") (cs.map sg)).cps.toList = _
 rw [StrLaws.glued_eq_join]
 induction cs with
 | nil => exact ee
 | cons c cs ih =>
   cases cs with
   | nil => rfl
   | cons d cs =>
     show (sg c ++ (Str.ofString "") ++ Str.join (Str.ofString "") ((d :: cs).map sg)).cps.toList = _
     rw [app_list, app_list, ee, List.append_nil, ih]
     rfl


def rowB (r : List Str) : Bool := decide (1 ≤ r.length ∧ r.length ≤ 20)
def tabB (t : List (List Str)) : Bool := decide (t.length ≤ 60) && t.all rowB
theorem rowB_t {r : List Str} (h1 : 1 ≤ r.length) (h2 : r.length ≤ 20) : rowB r = true := decide_eq_true ⟨h1, h2⟩
theorem rowB_f {r : List Str} (h : ¬ (1 ≤ r.length ∧ r.length ≤ 20)) : rowB r = false := decide_eq_false h
structure TabS (t : List (List Str)) : Prop where
 n : t.length ≤ 1000
 rl : ∀ r ∈ t, r.length ≤ 1000
 ok : ∀ r ∈ t, ∀ c ∈ r, cellOk c
 sum : total t ≤ 400
theorem tabB_ok {t : List (List Str)} (g : TabS t) (h : tabB t = true) : TabOk t := by
 unfold tabB at h
 rw [Bool.and_eq_true, List.all_eq_true] at h
 refine ⟨of_decide_eq_true h.1, fun r hr => ?_, g.sum⟩
 obtain ⟨a, b⟩ := of_decide_eq_true (h.2 r hr)
 exact ⟨a, b, g.ok r hr⟩
theorem ok_tabB {t : List (List Str)} (h : TabOk t) : tabB t = true := by
 unfold tabB
 rw [Bool.and_eq_true, List.all_eq_true]
 exact ⟨decide_eq_true h.n, fun r hr => rowB_t (h.rows r hr).lo (h.rows r hr).hi⟩
theorem TabOk.s {t : List (List Str)} (h : TabOk t) : TabS t := ⟨by have := h.n; omega, fun r hr => by have := (h.rows r hr).hi; omega, fun r hr => (h.rows r hr).ok, h.sum⟩

theorem walk_ok {p q f : Str} {b1 b2 b3 b4 : Bool} {ts : List (Str × Str)} (g : Gd p q f) (ht : ∀ t ∈ ts, cellOk t.2) {cs : List Nat} {m : Mrk} (h : WalkC (ledM p q f b1 b2 b3 b4 ts) m0 cs m) : ∀ c ∈ cs, c = 10 ∨ Pn c := by
 induction h with
 | nil => intro c hc; cases hc
 | @snoc xs m m' c _ hE ih =>
   intro d hd
   rcases List.mem_append.mp hd with z | z
   · exact ih d z
   · rw [List.mem_singleton.mp z]
     unfold ledM at hE
     cases e : ts[m.2]? with
     | none => rw [e] at hE; cases hE
     | some t =>
       rw [e] at hE
       obtain ⟨c', hc', hm⟩ := List.mem_filterMap.mp hE
       have ec : c' = c := by
         cases hM : mrkM p q f b1 b2 b3 b4 ts m c' with
         | none => rw [hM] at hm; cases hm
         | some y => rw [hM] at hm; cases hm; rfl
       rw [specM_mem, app_list, List.mem_append, us_mem] at hc'
       subst ec
       rcases hc' with (z | z | z | z | z) | z
       · exact .inr (g.gp.pr _ z)
       · exact .inr (g.gq.pr _ z)
       · exact .inr (g.gf.pr _ z)
       · exact .inl z
       · rw [z]; exact .inr (by decide)
       · exact ht t (List.mem_of_getElem? e) _ z
theorem tok_cell {t : List (List Str)} (h : ∀ r ∈ t, ∀ c ∈ r, cellOk c) : ∀ x ∈ tokTab t, cellOk x.2 := by
 have em : cellOk (Str.ofString "") := fun d hd => by rw [em_list] at hd; cases hd
 have hp : ∀ z, cellOk z → ∀ x ∈ puts z, cellOk x.2 := fun z hz x hx => by
   obtain ⟨c, hc, rfl⟩ := List.mem_map.mp hx
   intro d hd
   rw [List.mem_singleton.mp (show d ∈ [c] from hd)]
   exact hz c hc
 have hC : ∀ r, (∀ c ∈ r, cellOk c) → ∀ n, ∀ x ∈ tokC r n, cellOk x.2 := fun r hr n => by
   induction n with
   | zero => intro x hx; cases hx
   | succ n ih =>
     intro x hx
     rcases List.mem_append.mp hx with z | z
     · exact ih x z
     · rcases List.mem_append.mp z with y | y
       · split at y
         · cases y
         · rw [List.mem_singleton.mp y]; exact em
       · refine hp _ ?_ x y
         rw [List.getD_eq_getElem?_getD]
         cases e : r[n]? with
         | none => exact em
         | some c => exact hr c (List.mem_of_getElem? e)
 intro x hx
 obtain ⟨r, hr, hx⟩ := List.mem_flatMap.mp hx
 rcases List.mem_append.mp hx with z | z
 · exact hC r (h r hr) _ x z
 · rw [List.mem_singleton.mp z]; exact em
theorem tab_le {t : List (List Str)} (h : TabOk t) : (tokTab t).length ≤ 9000 := by
 have := tab_take h t.length
 rw [List.take_length] at this
 omega
theorem total_le {t s u : List (List Str)} (h : t = s ++ u) : total s ≤ total t ∧ total u ≤ total t := by
 subst h; unfold total; rw [List.map_append, List.sum_append]; omega
theorem TabOk.take {t : List (List Str)} (h : TabOk t) (i : Nat) : TabOk (t.take i) := by
 have := (total_le (List.take_append_drop i t).symm).1
 have := h.sum
 exact ⟨by rw [List.length_take]; have := h.n; omega, fun r hr => h.rows r (List.mem_of_mem_take hr), by omega⟩
theorem TabOk.drop {t : List (List Str)} (h : TabOk t) (i : Nat) : TabOk (t.drop i) := by
 have := (total_le (List.take_append_drop i t).symm).2
 have := h.sum
 exact ⟨by rw [List.length_drop]; have := h.n; omega, fun r hr => h.rows r (List.mem_of_mem_drop hr), by omega⟩
theorem cut_take (xs : List V) (n : Nat) (h : n ≤ xs.length) : cutV xs none (some (n : Int)) = xs.take n := by
 unfold cutV
 have e1 : HT.sIx xs.length 0 none = 0 := rfl
 have e2 : HT.sIx xs.length xs.length (some (n : Int)) = n := by
   show (if (n : Int) < 0 then ((n : Int) + (xs.length : Int)).toNat else min (n : Int).toNat xs.length) = _
   rw [if_neg (by omega), Int.toNat_natCast]; omega
 rw [e1, e2, List.drop_zero, Nat.sub_zero]
theorem paired_take {α β : Type} {F : α → β → Prop} : ∀ {xs : List α} {ys : List β} (n : Nat), Paired F xs ys → Paired F (xs.take n) (ys.take n)
 | _, _, 0, _ => .nil
 | _, _, n + 1, .nil => .nil
 | _, _, n + 1, .cons a r => .cons a (paired_take n r)
theorem join_len (cs : List Nat) : (Txt.join (Str.ofString "") (cs.map sg)).length = cs.length := by
 have := congrArg List.length (join_sgs cs)
 rw [Array.length_toList] at this
 exact this


def cAt (rc : Nat × Nat) (t : Str × Str) : Nat × Nat := if t = partT then (rc.1, rc.2 + 1) else if t = endT then (rc.1 + 1, 0) else rc
def cellAt (ts : List (Str × Str)) : Nat × Nat := ts.foldl cAt (0, 0)
theorem put_ne_end (c : Str) : (Str.ofString "put", c) ≠ endT := fun e => ends_put (congrArg Prod.fst e)
theorem put_ne_part (c : Str) : (Str.ofString "put", c) ≠ partT := fun e => absurd (congrArg Prod.fst e) (ne_ofS (by decide +kernel))
theorem cAt_le (rc : Nat × Nat) (t : Str × Str) : (cAt rc t).1 ≤ rc.1 + 1 ∧ (cAt rc t).2 ≤ rc.2 + 1 := by
 unfold cAt
 split
 · exact ⟨Nat.le_succ _, Nat.le_refl _⟩
 split
 · exact ⟨Nat.le_refl _, Nat.zero_le _⟩
 · exact ⟨Nat.le_succ _, Nat.le_succ _⟩
theorem cellAt_le : ∀ (ts : List (Str × Str)) (rc : Nat × Nat), (ts.foldl cAt rc).1 ≤ rc.1 + ts.length ∧ (ts.foldl cAt rc).2 ≤ rc.2 + ts.length
 | [], rc => ⟨Nat.le_refl _, Nat.le_refl _⟩
 | t :: ts, rc => by
   have h1 := cAt_le rc t
   have h2 := cellAt_le ts (cAt rc t)
   rw [List.foldl_cons, List.length_cons]
   omega
def nwF (r c : Int) : List (Str × V) := putF (Str.ofString "cell") (.int c) [(Str.ofString "row", .int r)]
theorem nwF_row (r c : Int) : (nwF r c).lookup (Str.ofString "row") = some (.int r) := by
 unfold nwF
 rw [lookup_putF, if_neg (by decide +kernel)]
 simp [List.lookup]
theorem nwF_cell (r c : Int) : (nwF r c).lookup (Str.ofString "cell") = some (.int c) := by
 unfold nwF
 rw [lookup_putF, if_pos rfl]
def MaxT (p q f : Str) (b1 b2 b3 b4 : Bool) (ts : List (Str × Str)) (n : Nat) : Prop := (∃ cs m, WalkC (ledM p q f b1 b2 b3 b4 ts) m0 cs m ∧ m.2 = n) ∧ ∀ cs m, WalkC (ledM p q f b1 b2 b3 b4 ts) m0 cs m → m.2 ≤ n
def NoW (p q f : Str) (b1 b2 b3 b4 : Bool) (ts : List (Str × Str)) : Prop := ∀ cs, ¬ RdT p q f b1 b2 b3 b4 ts cs
section
variable {good : Mrk → Bool} {led : Mrk → List (Nat × Mrk)} {a : Mrk}
theorem run_bound {cm cm' : Cm} {edge : List Mrk} {m : Mrk} {r : Option Mrk} (h : RunC good led cm edge r cm') : ∀ {k : Nat}, r = some m → Lev good led a cm edge k → k ≤ cm.length → ∃ n, n ≤ cm'.length ∧ ToldC led a cm' m n ∧ ∀ ys m', WalkC led a ys m' → good m' = true → n ≤ ys.length := by
 induction h with
 | stop => intro k e; cases e
 | @found cm edge m1 hf =>
   intro k e L hk
   cases e
   refine ⟨k, hk, (L.edg _ (List.mem_of_find?_eq_some hf)).1, fun ys m' hw hg => ?_⟩
   cases Nat.lt_or_ge ys.length k with
   | inl z => rw [L.less ys m' hw z] at hg; cases hg
   | inr z => exact z
 | @go cm cm' edge r _ hf hR ih =>
   intro k e L hk
   refine ih e (L.go hf) ?_
   have q := exp_lens (led := led) edge (cm, [])
   simp only [List.length_nil, Nat.add_zero] at q
   unfold expand at hR ⊢
   by_cases z : (edge.foldl (expC led) (cm, [])).2 = []
   · rw [z] at hR
     cases hR with
     | stop => cases e
     | found hf2 => cases hf2
     | go h _ _ => exact absurd rfl h
   · have := List.length_pos_iff.mpr z
     omega
theorem run_bnd {cm : Cm} {m : Mrk} (h : RunC good led [(a, none)] [a] (some m) cm) : ∃ n, n ≤ cm.length ∧ ToldC led a cm m n ∧ ∀ ys m', WalkC led a ys m' → good m' = true → n ≤ ys.length := run_bound h rfl Lev.zero (Nat.zero_le _)
end
section
variable {p q f : Str} {b1 b2 b3 b4 : Bool}
theorem noW_of {ts : List (Str × Str)} (he : EndsE ts) : NoW p q f b1 b2 b3 b4 ts ↔ ∀ cs m, WalkC (ledM p q f b1 b2 b3 b4 ts) m0 cs m → gdM ts m = false := by
 constructor
 · intro h cs m hw
   cases e : gdM ts m with
   | false => rfl
   | true => exact absurd (walk_rdT hw e) (h cs)
 · intro h cs r
   obtain ⟨ds, _, hw⟩ := r.walk he
   have := h ds _ hw
   rw [show gdM ts ((Str.ofString "row", Str.ofString ""), ts.length) = true from decide_eq_true rfl] at this
   cases this
theorem walk_st {ts : List (Str × Str)} (he : EndsE ts) {cs : List Nat} {m : Mrk} (h : WalkC (ledM p q f b1 b2 b3 b4 ts) m0 cs m) : StOk q m.1.1 m.1.2 ∧ liveM f m.1.1 m.1.2 = true ∧ (m.2 < ts.length ∨ m = ((Str.ofString "row", Str.ofString ""), ts.length)) := by
 induction h with
 | nil =>
   refine ⟨.inl ⟨rfl, .inl rfl⟩, row_live f, ?_⟩
   cases ts with
   | nil => exact .inr rfl
   | cons a l => exact .inl (Nat.zero_lt_succ _)
 | @snoc xs m m' c _ hE ih =>
   have hM := led_mem hE
   have hlt : m.2 < ts.length := by
     unfold ledM at hE
     cases e : ts[m.2]? with
     | none => rw [e] at hE; cases hE
     | some t => exact (List.getElem?_eq_some_iff.mp e).1
   obtain ⟨h1, h2⟩ := mrk_next he hlt hM ih.1
   refine ⟨h1, ?_, h2⟩
   have hM : mrkM p q f b1 b2 b3 b4 ts m c = some m' := hM
   unfold mrkM liveStep at hM
   cases hs : stepM p q f b1 b2 b3 b4 m.1.1 m.1.2 c with
   | flt e => rw [hs] at hM; cases hM
   | go k w u =>
     rw [hs] at hM
     dsimp only at hM
     by_cases hl : liveM f w u = true
     · rw [if_pos hl] at hM
       dsimp only at hM
       cases hc : cntM ts m.2 k (sg c) with
       | none => rw [hc] at hM; cases hM
       | some n => rw [hc] at hM; cases hM; exact hl
     · rw [if_neg hl] at hM; cases hM
theorem dead_end : ∀ {cs : List Nat} {w u w' u' : Str}, StOk q w u → liveM f w u = false → (runM p q f b1 b2 b3 b4 w u cs).2 = (w', u', none) → liveM f w' u' = false
 | [], w, u, w', u', _, hl, e => by
   have e : (w, u, (none : Option Str)) = (w', u', none) := e
   injection e with e1 e2
   injection e2 with e2 _
   rw [← e1, ← e2]; exact hl
 | c :: cs, w, u, w', u', h, hl, e => by
   unfold runM at e
   cases hs : stepM p q f b1 b2 b3 b4 w u c with
   | flt e' => rw [hs] at e; dsimp only at e; injection e with _ z; injection z with _ z; cases z
   | go k w2 u2 => rw [hs] at e; exact dead_end (step_ok h hs) (dead_step h hl hs) e
theorem part_walk0 {ts : List (Str × Str)} {a : Mrk} {n : Nat} (hn : n < ts.length) : ∀ {cs : List Nat} {w u w' u' : Str} {i : Nat} {pre : List Nat}, StOk q w u → WalkC (ledM p q f b1 b2 b3 b4 ts) a pre ((w, u), i) → i ≤ n →
   (runM p q f b1 b2 b3 b4 w u cs).2 = (w', u', none) → liveM f w' u' = true → (ts.take n).drop i = tkM (runM p q f b1 b2 b3 b4 w u cs).1 cs → WalkC (ledM p q f b1 b2 b3 b4 ts) a (pre ++ cs) ((w', u'), n) := by
 intro cs
 induction cs with
 | nil =>
   intro w u w' u' i pre _ hw hi e _ ht
   have e : (w, u, (none : Option Str)) = (w', u', none) := e
   injection e with e1 e2
   injection e2 with e2 _
   have hl : ((ts.take n).drop i).length = 0 := by rw [ht]; rfl
   rw [List.length_drop, List.length_take] at hl
   rw [List.append_nil, ← e1, ← e2, show n = i by omega]
   exact hw
 | cons c cs ih =>
   intro w u w' u' i pre hq hw hi hrun hlv ht
   unfold runM at hrun ht
   cases hs : stepM p q f b1 b2 b3 b4 w u c with
   | flt e => rw [hs] at hrun; dsimp only at hrun; injection hrun with _ z; injection z with _ z; cases z
   | go k w2 u2 =>
     rw [hs] at hrun ht
     dsimp only at hrun ht
     have hl : liveM f w2 u2 = true := by
       cases z : liveM f w2 u2 with
       | true => rfl
       | false => rw [dead_end (step_ok hq hs) z hrun] at hlv; cases hlv
     unfold tkM at ht
     by_cases hk : isS k (Str.ofString "skip") = true
     · rw [if_pos hk, List.nil_append] at ht
       have hc : cntM ts i k (sg c) = some i := by unfold cntM; rw [if_pos hk]
       have := ih (step_ok hq hs) (.snoc hw (tried hq hs hl (by omega) hc)) hi hrun hlv ht
       rw [List.append_assoc] at this
       exact this
     · rw [if_neg hk] at ht
       have hx : (ts.take n)[i]? = some (k, if isS k (Str.ofString "put") = true then sg c else Str.ofString "") := by
         have := congrArg List.head? ht
         rw [List.head?_drop] at this
         exact this
       have hin : i < n := by
         have := (List.getElem?_eq_some_iff.mp hx).1
         rw [List.length_take] at this
         omega
       rw [List.getElem?_take, if_pos hin] at hx
       have hd : (ts.take n).drop (i + 1) = tkM (runM p q f b1 b2 b3 b4 w2 u2 cs).1 cs := by
         have := congrArg List.tail ht
         rw [List.tail_drop] at this
         exact this
       have hc : cntM ts i k (sg c) = some (i + 1) := by unfold cntM; rw [if_neg hk, if_pos hx]
       have := ih (step_ok hq hs) (.snoc hw (tried hq hs hl (by omega) hc)) hin hrun hlv hd
       rw [List.append_assoc] at this
       exact this
def PR (p q f : Str) (b1 b2 b3 b4 : Bool) (w u : Str) (ts : List (Str × Str)) (cs : List Nat) (w' u' : Str) : Prop := (runM p q f b1 b2 b3 b4 w u cs).2 = (w', u', none) ∧ tkM (runM p q f b1 b2 b3 b4 w u cs).1 cs = ts
theorem part_walk {ts : List (Str × Str)} {n : Nat} {cs : List Nat} {w' u' : Str} (hn : n < ts.length) (h : PR p q f b1 b2 b3 b4 (Str.ofString "row") (Str.ofString "") (ts.take n) cs w' u') (hl : liveM f w' u' = true) : WalkC (ledM p q f b1 b2 b3 b4 ts) m0 cs ((w', u'), n) :=
 part_walk0 (pre := []) hn (.inl ⟨rfl, .inl rfl⟩) .nil (Nat.zero_le _) h.1 hl h.2.symm
theorem walk_PR {ts : List (Str × Str)} {cs : List Nat} {m : Mrk} (h : WalkC (ledM p q f b1 b2 b3 b4 ts) m0 cs m) : PR p q f b1 b2 b3 b4 (Str.ofString "row") (Str.ofString "") (ts.take m.2) cs m.1.1 m.1.2 := run_of_walk h
theorem RdT.pr {ts : List (Str × Str)} {cs : List Nat} : RdT p q f b1 b2 b3 b4 ts cs ↔ PR p q f b1 b2 b3 b4 (Str.ofString "row") (Str.ofString "") ts cs (Str.ofString "row") (Str.ofString "") := Iff.rfl
theorem PR.split {ts ts' : List (Str × Str)} {wE uE : Str} : ∀ {cs : List Nat} {w u : Str}, EndsE ts → (ts = [] → (w, u) = (Str.ofString "row", Str.ofString "")) → PR p q f b1 b2 b3 b4 w u (ts ++ ts') cs wE uE → ∃ c1 c2, cs = c1 ++ c2 ∧ Rd0 p q f b1 b2 b3 b4 w u ts c1 ∧ PR p q f b1 b2 b3 b4 (Str.ofString "row") (Str.ofString "") ts' c2 wE uE := by
 intro cs
 induction cs generalizing ts with
 | nil =>
   intro w u he hr h
   have e : ts ++ ts' = [] := h.2.symm
   obtain ⟨e1, e2⟩ := List.append_eq_nil_iff.mp e
   subst e1 e2
   have e := hr rfl
   injection e with e1 e2
   subst e1 e2
   exact ⟨[], [], rfl, ⟨rfl, rfl⟩, h⟩
 | cons c cs ih =>
   intro w u he hr h
   cases ts with
   | nil =>
     have e := hr rfl
     injection e with e1 e2
     subst e1 e2
     exact ⟨[], c :: cs, rfl, ⟨rfl, rfl⟩, h⟩
   | cons t ts =>
     obtain ⟨h1, h2⟩ := h
     unfold runM at h1 h2
     cases hs : stepM p q f b1 b2 b3 b4 w u c with
     | flt e => rw [hs] at h1; dsimp only at h1; injection h1 with _ z; injection z with _ z; cases z
     | go k w' u' =>
       rw [hs] at h1 h2
       dsimp only at h1 h2
       unfold tkM at h2
       have hrun : ∀ c1, runM p q f b1 b2 b3 b4 w u (c :: c1) = (k :: (runM p q f b1 b2 b3 b4 w' u' c1).1, (runM p q f b1 b2 b3 b4 w' u' c1).2) := fun c1 => run_go0 hs
       by_cases hk : isS k (Str.ofString "skip") = true
       · rw [if_pos hk, List.nil_append] at h2
         obtain ⟨c1, c2, e, g1, g2⟩ := ih (ts := t :: ts) he (fun z => nomatch z) ⟨h1, h2⟩
         refine ⟨c :: c1, c2, by rw [e]; rfl, ⟨by rw [hrun]; exact g1.1, ?_⟩, g2⟩
         rw [hrun]
         unfold tkM
         rw [if_pos hk, List.nil_append]
         exact g1.2
       · rw [if_neg hk] at h2
         have h2 : (k, if isS k (Str.ofString "put") = true then sg c else Str.ofString "") :: tkM (runM p q f b1 b2 b3 b4 w' u' cs).1 cs = t :: (ts ++ ts') := h2
         injection h2 with e1 e2
         have he' : EndsE ts := fun n hn => by
           have := he (n + 1) (by rw [List.length_cons, ← hn])
           rw [List.getElem?_cons_succ] at this
           exact this
         obtain ⟨c1, c2, e, g1, g2⟩ := ih (ts := ts) he' (fun z => by
           subst z
           have := he 0 rfl
           have e3 : t = endT := by simpa using this
           rw [e3] at e1
           have hk : k = Str.ofString "end" := congrArg Prod.fst e1
           rw [hk] at hs
           exact step_rowE hs) ⟨h1, e2⟩
         refine ⟨c :: c1, c2, by rw [e]; rfl, ⟨by rw [hrun]; exact g1.1, ?_⟩, g2⟩
         rw [hrun]
         unfold tkM
         rw [if_neg hk, g1.2, e1]
         rfl
theorem maxT_lt {B : List (Str × Str)} {n : Nat} (hB : EndsE B) (hn : NoW p q f b1 b2 b3 b4 B) (hm : MaxT p q f b1 b2 b3 b4 B n) : n < B.length := by
 obtain ⟨⟨cs, m, hw, e⟩, _⟩ := hm
 rcases (walk_st hB hw).2.2 with z | z
 · omega
 · have := (noW_of hB).mp hn cs m hw
   rw [z, show gdM B ((Str.ofString "row", Str.ofString ""), B.length) = true from decide_eq_true rfl] at this
   cases this
theorem MaxT.one {ts : List (Str × Str)} {n n' : Nat} (h : MaxT p q f b1 b2 b3 b4 ts n) (h' : MaxT p q f b1 b2 b3 b4 ts n') : n = n' := by
 obtain ⟨⟨cs, m, hw, e⟩, hm⟩ := h
 obtain ⟨⟨cs', m', hw', e'⟩, hm'⟩ := h'
 have := hm _ _ hw'
 have := hm' _ _ hw
 omega
end
theorem cAt_puts : ∀ (z : Str) (rc : Nat × Nat), (puts z).foldl cAt rc = rc := by
 intro z rc
 unfold puts
 induction z.cps.toList with
 | nil => rfl
 | cons c cs ih =>
   rw [List.map_cons, List.foldl_cons]
   have e : cAt rc (Str.ofString "put", sg c) = rc := by unfold cAt; rw [if_neg (put_ne_part _), if_neg (put_ne_end _)]
   rw [e]; exact ih
theorem cAt_tokC (r : List Str) : ∀ (n a : Nat), (tokC r n).foldl cAt (a, 0) = (a, n - 1)
 | 0, a => rfl
 | n + 1, a => by
   show (tokC r n ++ ((if n = 0 then [] else [partT]) ++ puts (r.getD n _))).foldl cAt (a, 0) = _
   rw [List.foldl_append, List.foldl_append, cAt_tokC r n a, cAt_puts]
   by_cases h : n = 0
   · subst h; rfl
   · rw [if_neg h]
     show cAt (a, n - 1) partT = _
     unfold cAt
     rw [if_pos rfl]
     show (a, n - 1 + 1) = (a, n + 1 - 1)
     rw [show n - 1 + 1 = n + 1 - 1 by omega]
theorem tokTab_one (r : List Str) : tokTab [r] = tokRow r := by unfold tokTab; rw [List.flatMap_cons, List.flatMap_nil, List.append_nil]
def cells (t : List (List Str)) : Nat := (t.map List.length).sum
structure WtOk (p q f : Str) (b1 b2 b3 b4 : Bool) (t : List (List Str)) (F : Str) : Prop where
 rd : RdT p q f b1 b2 b3 b4 (tokTab t) F.cps.toList
 ls : LeastT p q f b1 b2 b3 b4 (tokTab t) F.length
 le : F.length ≤ 1 + 11 * (tokTab t).length
 ok : cellOk F
def Wrn (p q f : Str) (b1 b2 b3 b4 : Bool) (H : Hp) (tf : Addr) (t : List (List Str)) : Prop :=
 (∃ F, H tf = some (.tup [.str (Str.ofString "text"), .str F]) ∧ WtOk p q f b1 b2 b3 b4 t F) ∨
 (∃ n, H tf = some (.tup [.str (Str.ofString "none"), .int (cellAt ((tokTab t).take n)).1, .int (cellAt ((tokTab t).take n)).2]) ∧ NoW p q f b1 b2 b3 b4 (tokTab t) ∧ MaxT p q f b1 b2 b3 b4 (tokTab t) n)
theorem Wrn.mono {p q f : Str} {b1 b2 b3 b4 : Bool} {H H' : Hp} {tf : Addr} {t : List (List Str)} (s : Same H H') (h : Wrn p q f b1 b2 b3 b4 H tf t) : Wrn p q f b1 b2 b3 b4 H' tf t := by
 rcases h with ⟨F, h1, h2⟩ | ⟨n, h1, h2⟩
 · exact .inl ⟨F, s _ _ h1, h2⟩
 · exact .inr ⟨n, s _ _ h1, h2⟩
section
variable {p q f : Str} {b1 b2 b3 b4 : Bool}
theorem step_partE {w u w' u' : Str} {c : Nat} (h : stepM p q f b1 b2 b3 b4 w u c = .go (Str.ofString "part") w' u') : (w', u') = (Str.ofString "cell", Str.ofString "") := by
 have n1 : ¬ Str.ofString "skip" = Str.ofString "part" := ne_ofS (by decide +kernel)
 have n2 : ¬ Str.ofString "put" = Str.ofString "part" := ne_ofS (by decide +kernel)
 have n3 : ¬ Str.ofString "end" = Str.ofString "part" := ne_ofS (by decide +kernel)
 have fin : ∀ {k a b : Str}, Res.go k a b = Res.go (Str.ofString "part") w' u' → (k = Str.ofString "part" → (a, b) = (Str.ofString "cell", Str.ofString "")) → (w', u') = (Str.ofString "cell", Str.ofString "") := by
   intro k a b e h
   injection e with e1 e2 e3
   rw [← e2, ← e3]; exact h e1
 have hB : mBehind p b3 c = .go (Str.ofString "part") w' u' → (w', u') = (Str.ofString "cell", Str.ofString "") := by
   intro h
   unfold mBehind at h
   repeat' split at h
   all_goals first
     | (cases h; done)
     | exact fin h fun _ => rfl
     | exact fin h fun z => absurd z (by assumption)
 unfold stepM at h
 split at h
 · unfold mWithin at h
   repeat' split at h
   all_goals first
     | (cases h; done)
     | exact fin h fun z => absurd z (by assumption)
 split at h
 · unfold mFreed mFreedX at h
   repeat' split at h
   all_goals first
     | (cases h; done)
     | exact fin h fun z => absurd z (by assumption)
 split at h
 · unfold mDoubt at h
   split at h
   · exact fin h fun z => absurd z n2
   · exact hB h
 split at h
 · exact hB h
 unfold mOpen at h
 split at h
 · unfold mPlain at h
   repeat' split at h
   all_goals first
     | (cases h; done)
     | exact fin h fun _ => rfl
     | exact fin h fun z => absurd z (by assumption)
 · unfold mBegin at h
   repeat' split at h
   all_goals first
     | (cases h; done)
     | exact fin h fun _ => rfl
     | exact fin h fun z => absurd z (by assumption)
def Beg (w : Str) : Prop := w = Str.ofString "row" ∨ w = Str.ofString "cell"
theorem beg_sm {w : Str} (h : Beg w) {u : Str} {c : Nat} : stepM p q f b1 b2 b3 b4 w u c = mBegin p q f b3 w u c := by
 rcases h with rfl | rfl
 · rw [sm_open (by decide +kernel) (by decide +kernel) (by decide +kernel) (by decide +kernel)]; unfold mOpen; rw [if_neg (ns (by decide +kernel))]
 · rw [sm_open (by decide +kernel) (by decide +kernel) (by decide +kernel) (by decide +kernel)]; unfold mOpen; rw [if_neg (ns (by decide +kernel))]
theorem beg_step {w1 w2 k w' u' : Str} {c : Nat} (h : mBegin p q f b3 w1 (Str.ofString "") c = .go k w' u') : mBegin p q f b3 w2 (Str.ofString "") c = .go k w' u' ∨ (k = Str.ofString "skip" ∧ w' = w1 ∧ u' = Str.ofString "" ∧ mBegin p q f b3 w2 (Str.ofString "") c = .go (Str.ofString "skip") w2 (Str.ofString "")) := by
 unfold mBegin at h ⊢
 repeat' split at h
 all_goals first
   | (cases h; exact .inr ⟨rfl, rfl, rfl, by simp only [*, if_true, if_false, Bool.false_eq_true]⟩)
   | (left; simp only [*, if_true, if_false, Bool.false_eq_true]; done)
   | (left; rw [← h]; simp only [*, if_true, if_false, Bool.false_eq_true]; done)
theorem PR.app {w u w1 u1 w2 u2 : Str} {ts ts' : List (Str × Str)} {cs cs' : List Nat} (h : PR p q f b1 b2 b3 b4 w u ts cs w1 u1) (h' : PR p q f b1 b2 b3 b4 w1 u1 ts' cs' w2 u2) : PR p q f b1 b2 b3 b4 w u (ts ++ ts') (cs ++ cs') w2 u2 := by
 have h0 : (runM p q f b1 b2 b3 b4 w u cs).2.2.2 = none := by rw [h.1]
 have ea := run_appZ (ds := cs') h0
 rw [h.1] at ea
 dsimp only at ea
 refine ⟨by rw [ea]; exact h'.1, ?_⟩
 rw [ea]
 show tkM (_ ++ _) (cs ++ cs') = _
 rw [tkM_app (run_klen h0), h.2, h'.2]
theorem PR.nil {w u : Str} : PR p q f b1 b2 b3 b4 w u [] [] w u := ⟨rfl, rfl⟩
theorem PR.step {w u k w' u' wE uE : Str} {c : Nat} {cs : List Nat} {ts : List (Str × Str)} (hs : stepM p q f b1 b2 b3 b4 w u c = .go k w' u') (h : PR p q f b1 b2 b3 b4 w' u' ts cs wE uE) : PR p q f b1 b2 b3 b4 w u ((if isS k (Str.ofString "skip") = true then [] else [(k, if isS k (Str.ofString "put") = true then sg c else Str.ofString "")]) ++ ts) (c :: cs) wE uE := by
 refine ⟨by rw [run_go0 hs]; exact h.1, ?_⟩
 rw [run_go0 hs]
 show _ ++ tkM _ cs = _
 rw [h.2]
theorem PR.un {w u wE uE : Str} {c : Nat} {cs : List Nat} {ts : List (Str × Str)} (h : PR p q f b1 b2 b3 b4 w u ts (c :: cs) wE uE) : ∃ k w' u' ts', stepM p q f b1 b2 b3 b4 w u c = .go k w' u' ∧ ts = (if isS k (Str.ofString "skip") = true then [] else [(k, if isS k (Str.ofString "put") = true then sg c else Str.ofString "")]) ++ ts' ∧ PR p q f b1 b2 b3 b4 w' u' ts' cs wE uE := by
 obtain ⟨h1, h2⟩ := h
 cases hs : stepM p q f b1 b2 b3 b4 w u c with
 | flt e => rw [run_flt0 hs] at h1; injection h1 with _ z; injection z with _ z; cases z
 | go k w' u' => rw [run_go0 hs] at h1 h2; exact ⟨k, w', u', _, rfl, h2.symm, h1, rfl⟩
theorem beg_run : ∀ {cs : List Nat} {ts : List (Str × Str)} {w1 w2 wE uE : Str}, Beg w1 → Beg w2 → ts ≠ [] → PR p q f b1 b2 b3 b4 w1 (Str.ofString "") ts cs wE uE → PR p q f b1 b2 b3 b4 w2 (Str.ofString "") ts cs wE uE
 | [], ts, w1, w2, wE, uE, _, _, hne, h => absurd h.2.symm hne
 | c :: cs, ts, w1, w2, wE, uE, hb1, hb2, hne, h => by
   obtain ⟨k, w', u', ts', hs, e, h'⟩ := h.un
   rw [beg_sm hb1] at hs
   rcases beg_step (w2 := w2) hs with z | ⟨rfl, rfl, rfl, z⟩
   · rw [e]; exact PR.step (by rw [beg_sm hb2]; exact z) h'
   · rw [if_pos (isS_self _), List.nil_append] at e
     subst e
     have := PR.step (c := c) (by rw [beg_sm hb2]; exact z) (beg_run hb1 hb2 hne h')
     rw [if_pos (isS_self _), List.nil_append] at this
     exact this
theorem PR.cut {ts' : List (Str × Str)} {wE uE : Str} : ∀ {cs : List Nat} {ts : List (Str × Str)} {w u : Str}, PR p q f b1 b2 b3 b4 w u (ts ++ ts') cs wE uE → ∃ c1 c2 w1 u1, cs = c1 ++ c2 ∧ PR p q f b1 b2 b3 b4 w u ts c1 w1 u1 ∧ PR p q f b1 b2 b3 b4 w1 u1 ts' c2 wE uE ∧ (ts = [] → (w1, u1) = (w, u)) ∧ (ts.getLast? = some partT → (w1, u1) = (Str.ofString "cell", Str.ofString "")) ∧ (ts.getLast? = some endT → (w1, u1) = (Str.ofString "row", Str.ofString ""))
 | cs, [], w, u, h => ⟨[], cs, w, u, rfl, .nil, h, fun _ => rfl, (fun z => by cases z), (fun z => by cases z)⟩
 | [], t :: ts, w, u, h => absurd h.2 (fun z => nomatch z)
 | c :: cs, t :: ts, w, u, h => by
   obtain ⟨k, w', u', tsr, hs, e, h'⟩ := h.un
   by_cases hk : isS k (Str.ofString "skip") = true
   · rw [if_pos hk, List.nil_append] at e
     rw [← e] at h'
     obtain ⟨c1, c2, w1, u1, e1, h1, h2, h3, h4⟩ := PR.cut (cs := cs) (ts := t :: ts) h'
     have := PR.step (c := c) hs h1
     rw [if_pos hk, List.nil_append] at this
     exact ⟨c :: c1, c2, w1, u1, by rw [e1]; rfl, this, h2, (fun z => nomatch z), h4⟩
   · rw [if_neg hk] at e
     injection e with e1 e2
     have e2 : ts ++ ts' = tsr := e2
     rw [← e2] at h'
     obtain ⟨c1, c2, w1, u1, ec, h1, h2, h3, h4, h5⟩ := PR.cut (cs := cs) (ts := ts) h'
     have := PR.step (c := c) hs h1
     rw [if_neg hk, ← e1] at this
     refine ⟨c :: c1, c2, w1, u1, by rw [ec]; rfl, this, h2, (fun z => nomatch z), fun z => ?_, fun z => ?_⟩
     · cases ts with
       | nil =>
         have z : t = partT := by simpa using z
         rw [h3 rfl]
         rw [z] at e1
         have hk2 : k = Str.ofString "part" := (congrArg Prod.fst e1).symm
         rw [hk2] at hs
         exact step_partE hs
       | cons a l => exact h4 (by simpa using z)
     · cases ts with
       | nil =>
         have z : t = endT := by simpa using z
         rw [h3 rfl]
         rw [z] at e1
         have hk2 : k = Str.ofString "end" := (congrArg Prod.fst e1).symm
         rw [hk2] at hs
         exact step_rowE hs
       | cons a l => exact h5 (by simpa using z)
def CellW (p q f : Str) (b1 b2 b3 b4 : Bool) (c : Str) (t : Str × Str) : Prop := ∃ s w u, PR p q f b1 b2 b3 b4 (Str.ofString "row") (Str.ofString "") (puts c ++ [t]) s w u
def tokAt (r : List Str) (i : Nat) : Str × Str := if i + 1 = r.length then endT else partT
def preT (r : List Str) (i : Nat) : List (Str × Str) := tokC r i ++ (if i = 0 then [] else [partT])
theorem tokC_pre2 {r : List Str} {i : Nat} {c : Str} (h : r[i]? = some c) : tokC r (i + 1) = preT r i ++ puts c := by rw [tokC_succ h]; unfold preT; rw [List.append_assoc]
theorem tokC_more (r : List Str) (i : Nat) : ∀ (n : Nat), ∃ R, tokC r (i + 1 + n) = tokC r (i + 1) ++ R ∧ (n = 0 → R = []) ∧ (0 < n → ∃ R', R = partT :: R')
 | 0 => ⟨[], (List.append_nil _).symm, fun _ => rfl, fun z => absurd z (Nat.lt_irrefl _)⟩
 | n + 1 => by
   obtain ⟨R, e, h0, h1⟩ := tokC_more r i n
   have e2 : tokC r (i + 1 + (n + 1)) = tokC r (i + 1 + n) ++ ([partT] ++ puts (r.getD (i + 1 + n) (Str.ofString ""))) := by
     show tokC r (i + 1 + n) ++ ((if i + 1 + n = 0 then [] else [partT]) ++ puts (r.getD (i + 1 + n) (Str.ofString ""))) = _
     rw [if_neg (by omega)]
   refine ⟨R ++ ([partT] ++ puts (r.getD (i + 1 + n) (Str.ofString ""))), by rw [e2, e, List.append_assoc], fun z => by omega, fun _ => ?_⟩
   cases n with
   | zero => rw [h0 rfl]; exact ⟨_, rfl⟩
   | succ n => obtain ⟨R', e3⟩ := h1 (by omega); rw [e3]; exact ⟨_, rfl⟩
theorem tokRow_at {r : List Str} {i : Nat} {c : Str} (h : r[i]? = some c) : ∃ R, tokRow r = preT r i ++ ((puts c ++ [tokAt r i]) ++ R) := by
 have hi := (List.getElem?_eq_some_iff.mp h).1
 obtain ⟨R, e, h0, h1⟩ := tokC_more r i (r.length - (i + 1))
 rw [show i + 1 + (r.length - (i + 1)) = r.length by omega, tokC_pre2 h] at e
 unfold tokRow
 rw [e]
 by_cases hl : i + 1 = r.length
 · refine ⟨[], ?_⟩
   unfold tokAt
   rw [if_pos hl, h0 (by omega)]
   simp
 · obtain ⟨R', e3⟩ := h1 (by omega)
   refine ⟨R' ++ [endT], ?_⟩
   unfold tokAt
   rw [if_neg hl, e3]
   simp
theorem preT_last {r : List Str} {i : Nat} (h : i ≠ 0) : (preT r i).getLast? = some partT := by unfold preT; rw [if_neg h]; simp
theorem preT_beg {r : List Str} {i : Nat} {w1 u1 : Str} (h1 : preT r i = [] → (w1, u1) = (Str.ofString "row", Str.ofString "")) (h2 : (preT r i).getLast? = some partT → (w1, u1) = (Str.ofString "cell", Str.ofString "")) : Beg w1 ∧ u1 = Str.ofString "" := by
 by_cases h : i = 0
 · subst h
   have e := h1 (by unfold preT; rw [if_pos rfl]; rfl)
   injection e with e1 e2
   exact ⟨.inl e1, e2⟩
 · have e := h2 (preT_last h)
   injection e with e1 e2
   exact ⟨.inr e1, e2⟩
theorem cellW_of {w u : Str} {c : Str} {t : Str × Str} {R : List (Str × Str)} {cs : List Nat} {wE uE : Str} (hb : Beg w) (hu : u = Str.ofString "") (h : PR p q f b1 b2 b3 b4 w u ((puts c ++ [t]) ++ R) cs wE uE) : CellW p q f b1 b2 b3 b4 c t := by
 subst hu
 obtain ⟨c1, c2, w1, u1, _, h1, _⟩ := PR.cut h
 exact ⟨c1, w1, u1, beg_run hb (.inl rfl) (by simp) h1⟩
theorem pre_wr {r : List Str} : ∀ {i : Nat}, i ≤ r.length → (∀ j d, j < i → r[j]? = some d → CellW p q f b1 b2 b3 b4 d partT) → ∃ s w, Beg w ∧ PR p q f b1 b2 b3 b4 (Str.ofString "row") (Str.ofString "") (preT r i) s w (Str.ofString "")
 | 0, _, _ => ⟨[], _, .inl rfl, .nil⟩
 | i + 1, hi, h => by
   obtain ⟨s, w, hb, hp⟩ := pre_wr (i := i) (by omega) fun j d hj hd => h j d (by omega) hd
   obtain ⟨d, hd⟩ : ∃ d, r[i]? = some d := ⟨_, List.getElem?_eq_getElem (by omega)⟩
   obtain ⟨s2, w2, u2, h2⟩ := h i d (by omega) hd
   obtain ⟨c1, c2, w1, u1, ec, g1, g2, _, g3, _⟩ := PR.cut (ts' := []) (by rw [List.append_nil]; exact h2)
   have e := g3 (by simp)
   injection e with e1 e2
   subst e1 e2
   refine ⟨s ++ c1, _, .inr rfl, ?_⟩
   have e3 : preT r (i + 1) = preT r i ++ (puts d ++ [partT]) := by
     show tokC r (i + 1) ++ (if i + 1 = 0 then [] else [partT]) = _
     rw [if_neg (by omega), tokC_pre2 hd, List.append_assoc]
   rw [e3]
   exact hp.app (beg_run (.inl rfl) hb (by simp) g1)
theorem row_wr {r : List Str} (h0 : 1 ≤ r.length) (h : ∀ i c, r[i]? = some c → CellW p q f b1 b2 b3 b4 c (tokAt r i)) : ∃ s, RdT p q f b1 b2 b3 b4 (tokRow r) s := by
 obtain ⟨n, hn⟩ : ∃ n, r.length = n + 1 := ⟨r.length - 1, by omega⟩
 obtain ⟨c, hc⟩ : ∃ c, r[n]? = some c := ⟨_, List.getElem?_eq_getElem (by omega)⟩
 obtain ⟨s, w, hb, hp⟩ := pre_wr (r := r) (i := n) (by omega) fun j d hj hd => by
   have := h j d hd
   unfold tokAt at this
   rw [if_neg (by omega)] at this
   exact this
 have hc2 := h n c hc
 have et : tokAt r n = endT := by unfold tokAt; rw [if_pos hn.symm]
 rw [et] at hc2
 obtain ⟨s2, w2, u2, h2⟩ := hc2
 obtain ⟨c1, c2, w1, u1, ec, g1, g2, _, _, g3⟩ := PR.cut (ts' := []) (by rw [List.append_nil]; exact h2)
 have e := g3 (by simp)
 injection e with e1 e2
 subst e1 e2
 refine ⟨s ++ c1, ?_⟩
 have e3 : tokRow r = preT r n ++ (puts c ++ [endT]) := by unfold tokRow; rw [hn, tokC_pre2 hc, List.append_assoc]
 rw [e3]
 exact hp.app (beg_run (.inl rfl) hb (by simp) g1)
theorem row_no {r : List Str} {i : Nat} {c : Str} (hc : r[i]? = some c) (h : ¬ CellW p q f b1 b2 b3 b4 c (tokAt r i)) : NoW p q f b1 b2 b3 b4 (tokRow r) := fun cs rd => by
 obtain ⟨R, e⟩ := tokRow_at hc
 rw [e] at rd
 obtain ⟨c1, c2, w1, u1, _, h1, h2, h3, h4, _⟩ := PR.cut (RdT.pr.mp rd)
 obtain ⟨hb, hu⟩ := preT_beg (fun z => h3 z) h4
 exact h (cellW_of hb hu h2)
theorem cAt_pre (r : List Str) (i : Nat) : cellAt (preT r i) = (0, i) := by
 unfold cellAt preT
 rw [List.foldl_append, cAt_tokC]
 by_cases h : i = 0
 · subst h; rfl
 · rw [if_neg h]
   show cAt (0, i - 1) partT = _
   unfold cAt
   rw [if_pos rfl]
   show (0, i - 1 + 1) = _
   rw [show i - 1 + 1 = i by omega]
theorem cAt_take (z : Str) (n : Nat) (rc : Nat × Nat) : ((puts z).take n).foldl cAt rc = rc := by
 have : ∀ l : List (Str × Str), (∀ t ∈ l, ∃ c, t = (Str.ofString "put", c)) → l.foldl cAt rc = rc := by
   intro l
   induction l with
   | nil => intro _; rfl
   | cons t l ih =>
     intro h
     obtain ⟨c, rfl⟩ := h t (List.mem_cons_self ..)
     rw [List.foldl_cons]
     have e : cAt rc (Str.ofString "put", c) = rc := by unfold cAt; rw [if_neg (put_ne_part _), if_neg (put_ne_end _)]
     rw [e]; exact ih fun t z => h t (List.mem_cons_of_mem _ z)
 refine this _ fun t ht => ?_
 obtain ⟨c, _, rfl⟩ := List.mem_map.mp (List.mem_of_mem_take ht)
 exact ⟨_, rfl⟩
theorem row_max {r : List Str} {i n : Nat} {c : Str} (hc : r[i]? = some c) (hb : ∀ j d, j < i → r[j]? = some d → CellW p q f b1 b2 b3 b4 d (tokAt r j)) (h : ¬ CellW p q f b1 b2 b3 b4 c (tokAt r i)) (hm : MaxT p q f b1 b2 b3 b4 (tokRow r) n) : cellAt ((tokRow r).take n) = (0, i) := by
 have hi := (List.getElem?_eq_some_iff.mp hc).1
 obtain ⟨R, e⟩ := tokRow_at hc
 obtain ⟨⟨cs, m, hw, em⟩, hmax⟩ := hm
 have lo : (preT r i).length ≤ n := by
   obtain ⟨s, w, hbg, hp⟩ := pre_wr (r := r) (i := i) (by omega) fun j d hj hd => by
     have := hb j d hj hd
     unfold tokAt at this
     rw [if_neg (by omega)] at this
     exact this
   have := hmax _ _ (part_walk (ts := tokRow r) (n := (preT r i).length) (by rw [e, List.length_append, List.length_append, List.length_append]; show _ < _ + (_ + 1 + _); omega) (by rw [e, List.take_left]; exact hp) (by unfold liveM; rw [if_pos (isS_self _)]))
   exact this
 have hi2 : n < (preT r i).length + (puts c).length + 1 := by
   cases Nat.lt_or_ge n ((preT r i).length + (puts c).length + 1) with
   | inl z => exact z
   | inr z =>
     exfalso
     have h1 := walk_PR hw
     rw [em, e] at h1
     obtain ⟨k, hk⟩ : ∃ k, n = (preT r i).length + ((puts c ++ [tokAt r i]).length + k) := ⟨n - ((preT r i).length + (puts c ++ [tokAt r i]).length), by rw [List.length_append, List.length_singleton]; omega⟩
     rw [hk, List.take_length_add_append, List.take_length_add_append] at h1
     obtain ⟨c1, c2, w1, u1, _, g1, g2, g3, g4, _⟩ := PR.cut h1
     obtain ⟨hbg, hu⟩ := preT_beg (fun z => g3 z) g4
     exact h (cellW_of hbg hu g2)
 obtain ⟨k, hk⟩ : ∃ k, n = (preT r i).length + k := ⟨n - (preT r i).length, by omega⟩
 rw [e, hk, List.take_length_add_append, List.append_assoc, List.take_append_of_le_length (by omega)]
 unfold cellAt
 rw [List.foldl_append, show (preT r i).foldl cAt (0, 0) = (0, i) from cAt_pre r i, cAt_take]
theorem line_end (g : Gd p q f) : stepM p q f b1 b2 b3 b4 (Str.ofString "cell") (Str.ofString "") 10 = .go (Str.ofString "end") (Str.ofString "row") (Str.ofString "") := by
 rw [beg_sm (.inr rfl)]
 unfold mBegin
 rw [if_neg (l10 g.gf), if_pos (by rw [lnl]; exact isS_self _)]
theorem two_wr (g : Gd p q f) {c : Str} : (∃ s, RdT p q f b1 b2 b3 b4 (tokRow [c, Str.ofString ""]) s) ↔ CellW p q f b1 b2 b3 b4 c partT := by
 have e : tokRow [c, Str.ofString ""] = (puts c ++ [partT]) ++ [endT] := by
   show (([] ++ ((if 0 = 0 then [] else [partT]) ++ puts c)) ++ ((if 1 = 0 then [] else [partT]) ++ puts (Str.ofString ""))) ++ [endT] = _
   rw [if_pos rfl, if_neg (by omega), puts_em]
   simp
 rw [e]
 constructor
 · rintro ⟨s, h⟩; exact cellW_of (.inl rfl) rfl (RdT.pr.mp h)
 · rintro ⟨s, w, u, h⟩
   obtain ⟨c1, c2, w1, u1, ec, g1, g2, _, g3, _⟩ := PR.cut (ts' := []) (by rw [List.append_nil]; exact h)
   have e1 := g3 (by simp)
   injection e1 with e1 e2
   subst e1 e2
   refine ⟨c1 ++ [10], RdT.pr.mpr (g1.app ?_)⟩
   have := PR.step (cs := []) (ts := []) (line_end (b1 := b1) (b2 := b2) (b3 := b3) (b4 := b4) g) .nil
   rw [if_neg (ns (by decide +kernel)), if_neg (ns (by decide +kernel))] at this
   exact this
theorem one_wr {c : Str} : (∃ s, RdT p q f b1 b2 b3 b4 (tokRow [c]) s) ↔ CellW p q f b1 b2 b3 b4 c endT := by
 have e : tokRow [c] = puts c ++ [endT] := by
   show ([] ++ ((if 0 = 0 then [] else [partT]) ++ puts c)) ++ [endT] = _
   rw [if_pos rfl]
   simp
 rw [e]
 constructor
 · rintro ⟨s, h⟩; exact ⟨s, _, _, RdT.pr.mp h⟩
 · rintro ⟨s, w, u, h⟩
   obtain ⟨c1, c2, w1, u1, ec, g1, g2, _, _, g3⟩ := PR.cut (ts' := []) (by rw [List.append_nil]; exact h)
   have e1 := g3 (by simp)
   injection e1 with e1 e2
   subst e1 e2
   exact ⟨c1, RdT.pr.mpr g1⟩
end


theorem lens_take (r : List Str) (n : Nat) : (lens (r.take n)).sum ≤ (lens r).sum := by
 have := congrArg (fun l => (lens l).sum) (List.take_append_drop n r)
 unfold lens at this ⊢
 simp only [List.map_append, List.sum_append] at this
 omega
theorem cut_20 (xs : List V) : cutV xs none (some 20) = xs.take 20 := by
 unfold cutV
 have e1 : HT.sIx xs.length 0 none = 0 := rfl
 have e2 : HT.sIx xs.length xs.length (some 20) = min 20 xs.length := rfl
 rw [e1, e2, List.drop_zero, Nat.sub_zero]
 by_cases h : 20 ≤ xs.length
 · rw [show min 20 xs.length = 20 by omega]
 · rw [show min 20 xs.length = xs.length by omega, List.take_length, List.take_of_length_le (by omega)]
theorem tabok1 {r : List Str} (h : RowOk r) (hs : (lens r).sum ≤ 400) : TabOk [r] := ⟨by show 1 ≤ 60; omega, fun r' h' => by rw [List.mem_singleton.mp h']; exact h, by show (lens r).sum + 0 ≤ 400; omega⟩
theorem RowOk.rev {r : List Str} (h : RowOk r) : RowOk r.reverse := ⟨by rw [List.length_reverse]; exact h.lo, by rw [List.length_reverse]; exact h.hi, fun c hc => h.ok c (List.mem_reverse.mp hc)⟩
theorem lens_rev (r : List Str) : (lens r.reverse).sum = (lens r).sum := by unfold lens; rw [List.map_reverse, List.sum_reverse]

theorem sc_is_printable : FnScope ["sign", "number"] ["sign"] (defScope s_is_printable) := ⟨rfl, rfl, rfl, by decide +kernel, rfl, by decide +kernel, by decide +kernel⟩
theorem sc_has_signs_alone : FnScope ["text"] ["text"] (defScope s_has_signs_alone) := ⟨rfl, rfl, rfl, by decide +kernel, rfl, by decide +kernel, by decide +kernel⟩
theorem sc_are_unlike_signs : FnScope ["thing", "least", "most"] ["thing", "least", "most"] (defScope s_are_unlike_signs) := ⟨rfl, rfl, rfl, by decide +kernel, rfl, by decide +kernel, by decide +kernel⟩
theorem sc_Dialect___init__ : FnScope ["self", "parts", "quotes", "frees", "twin", "wide", "thin", "stray", "truth"] ["self", "parts", "quotes", "frees", "twin", "wide", "thin", "stray"] (defScope s_Dialect___init__) := ⟨rfl, rfl, rfl, by decide +kernel, rfl, by decide +kernel, by decide +kernel⟩
theorem sc_Dialect_told : FnScope ["self"] ["self"] (defScope s_Dialect_told) := ⟨rfl, rfl, rfl, by decide +kernel, rfl, by decide +kernel, by decide +kernel⟩
theorem sc_dialect_of : FnScope ["told"] ["told"] (defScope s_dialect_of) := ⟨rfl, rfl, rfl, by decide +kernel, rfl, by decide +kernel, by decide +kernel⟩
theorem sc_step_at_beginning : FnScope ["dialect", "state", "sign"] ["dialect", "state", "sign"] (defScope s_step_at_beginning) := ⟨rfl, rfl, rfl, by decide +kernel, rfl, by decide +kernel, by decide +kernel⟩
theorem sc_step_in_plain : FnScope ["dialect", "sign"] ["dialect", "sign"] (defScope s_step_in_plain) := ⟨rfl, rfl, rfl, by decide +kernel, rfl, by decide +kernel, by decide +kernel⟩
theorem sc_step_within : FnScope ["dialect", "quote", "sign"] ["dialect", "quote", "sign"] (defScope s_step_within) := ⟨rfl, rfl, rfl, by decide +kernel, rfl, by decide +kernel, by decide +kernel⟩
theorem sc_step_behind : FnScope ["dialect", "sign"] ["dialect", "sign"] (defScope s_step_behind) := ⟨rfl, rfl, rfl, by decide +kernel, rfl, by decide +kernel, by decide +kernel⟩
theorem sc_step_in_doubt : FnScope ["dialect", "quote", "sign"] ["dialect", "quote", "sign"] (defScope s_step_in_doubt) := ⟨rfl, rfl, rfl, by decide +kernel, rfl, by decide +kernel, by decide +kernel⟩
theorem sc_step_freed : FnScope ["dialect", "quote", "sign"] ["dialect", "quote", "sign"] (defScope s_step_freed) := ⟨rfl, rfl, rfl, by decide +kernel, rfl, by decide +kernel, by decide +kernel⟩
theorem sc_Turn___init__ : FnScope ["self", "dialect"] ["self", "dialect"] (defScope s_Turn___init__) := ⟨rfl, rfl, rfl, by decide +kernel, rfl, by decide +kernel, by decide +kernel⟩
theorem sc_Turn_step : FnScope ["self", "state", "sign", "word", "quote"] ["self", "state", "sign"] (defScope s_Turn_step) := ⟨rfl, rfl, rfl, by decide +kernel, rfl, by decide +kernel, by decide +kernel⟩
theorem sc_once : FnScope ["text", "found", "sign"] ["text"] (defScope s_once) := ⟨rfl, rfl, rfl, by decide +kernel, rfl, by decide +kernel, by decide +kernel⟩
theorem sc_Dialect_special : FnScope ["self"] ["self"] (defScope s_Dialect_special) := ⟨rfl, rfl, rfl, by decide +kernel, rfl, by decide +kernel, by decide +kernel⟩
theorem sc_is_live : FnScope ["dialect", "state"] ["dialect", "state"] (defScope s_is_live) := ⟨rfl, rfl, rfl, by decide +kernel, rfl, by decide +kernel, by decide +kernel⟩
theorem sc_Turn_live_step : FnScope ["self", "state", "sign", "step"] ["self", "state", "sign"] (defScope s_Turn_live_step) := ⟨rfl, rfl, rfl, by decide +kernel, rfl, by decide +kernel, by decide +kernel⟩
theorem sc_count_behind : FnScope ["tokens", "count", "kind", "sign", "token"] ["tokens", "count", "kind", "sign"] (defScope s_count_behind) := ⟨rfl, rfl, rfl, by decide +kernel, rfl, by decide +kernel, by decide +kernel⟩
theorem sc_Marker___init__ : FnScope ["self", "dialect", "tokens"] ["self", "dialect", "tokens"] (defScope s_Marker___init__) := ⟨rfl, rfl, rfl, by decide +kernel, rfl, by decide +kernel, by decide +kernel⟩
theorem sc_Marker_mark_behind : FnScope ["self", "mark", "sign", "step", "count"] ["self", "mark", "sign"] (defScope s_Marker_mark_behind) := ⟨rfl, rfl, rfl, by decide +kernel, rfl, by decide +kernel, by decide +kernel⟩
theorem sc_Marker_has_read_all : FnScope ["self", "mark"] ["self", "mark"] (defScope s_Marker_has_read_all) := ⟨rfl, rfl, rfl, by decide +kernel, rfl, by decide +kernel, by decide +kernel⟩
theorem sc_Writer___init__ : FnScope ["self", "dialect", "tokens"] ["self", "dialect", "tokens"] (defScope s_Writer___init__) := ⟨rfl, rfl, rfl, by decide +kernel, rfl, by decide +kernel, by decide +kernel⟩
theorem sc_Writer_leads : FnScope ["self", "place", "signs", "found"] ["self", "place"] (defScope s_Writer_leads) := ⟨rfl, rfl, rfl, by decide +kernel, rfl, by decide +kernel, by decide +kernel⟩
theorem sc_Writer_is_good : FnScope ["self", "place"] ["self", "place"] (defScope s_Writer_is_good) := ⟨rfl, rfl, rfl, by decide +kernel, rfl, by decide +kernel, by decide +kernel⟩
theorem sc_search : FnScope ["first", "searched", "most", "came", "edge", "place", "farther", "lead"] ["first", "searched", "most"] (defScope s_search) := ⟨rfl, rfl, rfl, by decide +kernel, rfl, by decide +kernel, by decide +kernel⟩
theorem sc_text_to : FnScope ["came", "place", "signs", "link"] ["came", "place"] (defScope s_text_to) := ⟨rfl, rfl, rfl, by decide +kernel, rfl, by decide +kernel, by decide +kernel⟩
theorem sc_is_cell : FnScope ["thing"] ["thing"] (defScope s_is_cell) := ⟨rfl, rfl, rfl, by decide +kernel, rfl, by decide +kernel, by decide +kernel⟩
theorem sc_is_row : FnScope ["thing"] ["thing"] (defScope s_is_row) := ⟨rfl, rfl, rfl, by decide +kernel, rfl, by decide +kernel, by decide +kernel⟩
theorem sc_signs_in_row : FnScope ["row"] ["row"] (defScope s_signs_in_row) := ⟨rfl, rfl, rfl, by decide +kernel, rfl, by decide +kernel, by decide +kernel⟩
theorem sc_is_table : FnScope ["thing"] ["thing"] (defScope s_is_table) := ⟨rfl, rfl, rfl, by decide +kernel, rfl, by decide +kernel, by decide +kernel⟩
theorem sc_check_table : FnScope ["thing"] ["thing"] (defScope s_check_table) := ⟨rfl, rfl, rfl, by decide +kernel, rfl, by decide +kernel, by decide +kernel⟩
theorem sc_tokens_of_row : FnScope ["row", "tokens", "place", "cell"] ["row"] (defScope s_tokens_of_row) := ⟨rfl, rfl, rfl, by decide +kernel, rfl, by decide +kernel, by decide +kernel⟩
theorem sc_tokens_of : FnScope ["table", "tokens", "row"] ["table"] (defScope s_tokens_of) := ⟨rfl, rfl, rfl, by decide +kernel, rfl, by decide +kernel, by decide +kernel⟩
theorem sc_cell_at : FnScope ["tokens", "count", "row", "cell", "token"] ["tokens", "count"] (defScope s_cell_at) := ⟨rfl, rfl, rfl, by decide +kernel, rfl, by decide +kernel, by decide +kernel⟩
theorem sc_NoWriting___init__ : FnScope ["self", "row", "cell"] ["self", "row", "cell"] (defScope s_NoWriting___init__) := ⟨rfl, rfl, rfl, by decide +kernel, rfl, by decide +kernel, by decide +kernel⟩
theorem sc_shortest : FnScope ["dialect", "table", "tokens", "found", "came", "lacking"] ["dialect", "table"] (defScope s_shortest) := ⟨rfl, rfl, rfl, by decide +kernel, rfl, by decide +kernel, by decide +kernel⟩
theorem sc__law_cell_at : FnScope ["_law_script", "_law_k"] ["_law_script", "_law_k"] (defScope s__law_cell_at) := ⟨rfl, rfl, rfl, by decide +kernel, rfl, by decide +kernel, by decide +kernel⟩
theorem sc__law_mixed : FnScope ["_law_number_here", "_law_salt", "_law_one", "_law_two"] ["_law_number_here", "_law_salt"] (defScope s__law_mixed) := ⟨rfl, rfl, rfl, by decide +kernel, rfl, by decide +kernel, by decide +kernel⟩
theorem sc__law_number : FnScope ["_law_cell", "_law_salt", "_law_number_here", "_law_high"] ["_law_cell", "_law_salt"] (defScope s__law_number) := ⟨rfl, rfl, rfl, by decide +kernel, rfl, by decide +kernel, by decide +kernel⟩
theorem sc__law_some : FnScope ["_law_number_here", "_law_many", "_law_menu", "_law_found", "_law_k", "_law_sign"] ["_law_number_here", "_law_many", "_law_menu"] (defScope s__law_some) := ⟨rfl, rfl, rfl, by decide +kernel, rfl, by decide +kernel, by decide +kernel⟩
theorem sc__law_menus : FnScope ["_law_way", "_law_every"] ["_law_way"] (defScope s__law_menus) := ⟨rfl, rfl, rfl, by decide +kernel, rfl, by decide +kernel, by decide +kernel⟩
theorem sc__law_told : FnScope ["_law_cell", "_law_number_here", "_law_flags", "_law_sizes", "_law_menus_here", "_law_parts", "_law_quotes", "_law_frees", "_law_truths"] ["_law_cell"] (defScope s__law_told) := ⟨rfl, rfl, rfl, by decide +kernel, rfl, by decide +kernel, by decide +kernel⟩
theorem sc__law_made : FnScope ["_law_told_here"] ["_law_told_here"] (defScope s__law_made) := ⟨rfl, rfl, rfl, by decide +kernel, rfl, by decide +kernel, by decide +kernel⟩
theorem sc__law_row : FnScope ["_law_told_here", "_law_cell", "_law_salt", "_law_most", "_law_number_here", "_law_many", "_law_every", "_law_row_here", "_law_text", "_law_k", "_law_way"] ["_law_told_here", "_law_cell", "_law_salt", "_law_most"] (defScope s__law_row) := ⟨rfl, rfl, rfl, by decide +kernel, rfl, by decide +kernel, by decide +kernel⟩
theorem sc__law_written : FnScope ["_law_made_here", "_law_table", "_law_text", "e"] ["_law_made_here", "_law_table"] (defScope s__law_written) := ⟨rfl, rfl, rfl, by decide +kernel, rfl, by decide +kernel, by decide +kernel⟩
theorem sc__law_first : FnScope ["_law_made_here", "_law_row_here", "_law_c", "_law_some_here"] ["_law_made_here", "_law_row_here"] (defScope s__law_first) := ⟨rfl, rfl, rfl, by decide +kernel, rfl, by decide +kernel, by decide +kernel⟩
theorem sc__law_right : FnScope ["_law_made_here", "_law_row_here", "_law_found", "_law_due"] ["_law_made_here", "_law_row_here"] (defScope s__law_right) := ⟨rfl, rfl, rfl, by decide +kernel, rfl, by decide +kernel, by decide +kernel⟩
theorem sc_law : FnScope ["_law_script", "_law_told_here", "_law_made_here", "_law_row_here", "_law_at"] ["_law_script"] (defScope s_law) := ⟨rfl, rfl, rfl, by decide +kernel, rfl, by decide +kernel, by decide +kernel⟩
structure Txt (K : PySem.W.Frag) (mg : Str → Option Value) (f_is_printable f_has_signs_alone f_are_unlike_signs f_Dialect___init__ f_Dialect_told f_dialect_of f_step_at_beginning f_step_in_plain f_step_within f_step_behind f_step_in_doubt f_step_freed f_Turn___init__ f_Turn_step f_once f_Dialect_special f_is_live f_Turn_live_step f_count_behind f_Marker___init__ f_Marker_mark_behind f_Marker_has_read_all f_Writer___init__ f_Writer_leads f_Writer_is_good f_search f_text_to f_is_cell f_is_row f_signs_in_row f_is_table f_check_table f_tokens_of_row f_tokens_of f_cell_at f_NoWriting___init__ f_shortest f__law_cell_at f__law_mixed f__law_number f__law_some f__law_menus f__law_told f__law_made f__law_row f__law_written f__law_first f__law_right f_law C_Dialect C_Turn C_Marker C_Writer C_DialectError N_DialectError C_NoWriting N_NoWriting a_START a_PART a_END : Addr) (fd_is_printable fd_has_signs_alone fd_are_unlike_signs fd_Dialect___init__ fd_Dialect_told fd_dialect_of fd_step_at_beginning fd_step_in_plain fd_step_within fd_step_behind fd_step_in_doubt fd_step_freed fd_Turn___init__ fd_Turn_step fd_once fd_Dialect_special fd_is_live fd_Turn_live_step fd_count_behind fd_Marker___init__ fd_Marker_mark_behind fd_Marker_has_read_all fd_Writer___init__ fd_Writer_leads fd_Writer_is_good fd_search fd_text_to fd_is_cell fd_is_row fd_signs_in_row fd_is_table fd_check_table fd_tokens_of_row fd_tokens_of fd_cell_at fd_NoWriting___init__ fd_shortest fd__law_cell_at fd__law_mixed fd__law_number fd__law_some fd__law_menus fd__law_told fd__law_made fd__law_row fd__law_written fd__law_first fd__law_right fd_law : FuncData) (z_LINE : Str) (dt_Dialect___init__ dt_search : Addr) : Prop where
 F_is_printable : Fun K "is_printable" "is_printable" s_is_printable f_is_printable fd_is_printable
 b_is_printable : Binds K fd_is_printable ["sign"] []
 g_is_printable : mg "is_printable" = some (.ref f_is_printable)
 F_has_signs_alone : Fun K "has_signs_alone" "has_signs_alone" s_has_signs_alone f_has_signs_alone fd_has_signs_alone
 b_has_signs_alone : Binds K fd_has_signs_alone ["text"] []
 g_has_signs_alone : mg "has_signs_alone" = some (.ref f_has_signs_alone)
 F_are_unlike_signs : Fun K "are_unlike_signs" "are_unlike_signs" s_are_unlike_signs f_are_unlike_signs fd_are_unlike_signs
 b_are_unlike_signs : Binds K fd_are_unlike_signs ["thing", "least", "most"] []
 g_are_unlike_signs : mg "are_unlike_signs" = some (.ref f_are_unlike_signs)
 F_Dialect___init__ : FunD K "__init__" "Dialect.__init__" s_Dialect___init__ f_Dialect___init__ fd_Dialect___init__ (.ref dt_Dialect___init__)
 b_Dialect___init__ : Binds K fd_Dialect___init__ ["self", "parts", "quotes", "frees", "twin", "wide", "thin", "stray"] []
 F_Dialect_told : Fun K "told" "Dialect.told" s_Dialect_told f_Dialect_told fd_Dialect_told
 b_Dialect_told : Binds K fd_Dialect_told ["self"] []
 m_Dialect_told : Meth K C_Dialect "told" f_Dialect_told
 F_dialect_of : Fun K "dialect_of" "dialect_of" s_dialect_of f_dialect_of fd_dialect_of
 b_dialect_of : Binds K fd_dialect_of ["told"] []
 g_dialect_of : mg "dialect_of" = some (.ref f_dialect_of)
 F_step_at_beginning : Fun K "step_at_beginning" "step_at_beginning" s_step_at_beginning f_step_at_beginning fd_step_at_beginning
 b_step_at_beginning : Binds K fd_step_at_beginning ["dialect", "state", "sign"] []
 g_step_at_beginning : mg "step_at_beginning" = some (.ref f_step_at_beginning)
 F_step_in_plain : Fun K "step_in_plain" "step_in_plain" s_step_in_plain f_step_in_plain fd_step_in_plain
 b_step_in_plain : Binds K fd_step_in_plain ["dialect", "sign"] []
 g_step_in_plain : mg "step_in_plain" = some (.ref f_step_in_plain)
 F_step_within : Fun K "step_within" "step_within" s_step_within f_step_within fd_step_within
 b_step_within : Binds K fd_step_within ["dialect", "quote", "sign"] []
 g_step_within : mg "step_within" = some (.ref f_step_within)
 F_step_behind : Fun K "step_behind" "step_behind" s_step_behind f_step_behind fd_step_behind
 b_step_behind : Binds K fd_step_behind ["dialect", "sign"] []
 g_step_behind : mg "step_behind" = some (.ref f_step_behind)
 F_step_in_doubt : Fun K "step_in_doubt" "step_in_doubt" s_step_in_doubt f_step_in_doubt fd_step_in_doubt
 b_step_in_doubt : Binds K fd_step_in_doubt ["dialect", "quote", "sign"] []
 g_step_in_doubt : mg "step_in_doubt" = some (.ref f_step_in_doubt)
 F_step_freed : Fun K "step_freed" "step_freed" s_step_freed f_step_freed fd_step_freed
 b_step_freed : Binds K fd_step_freed ["dialect", "quote", "sign"] []
 g_step_freed : mg "step_freed" = some (.ref f_step_freed)
 F_Turn___init__ : Fun K "__init__" "Turn.__init__" s_Turn___init__ f_Turn___init__ fd_Turn___init__
 b_Turn___init__ : Binds K fd_Turn___init__ ["self", "dialect"] []
 F_Turn_step : Fun K "step" "Turn.step" s_Turn_step f_Turn_step fd_Turn_step
 b_Turn_step : Binds K fd_Turn_step ["self", "state", "sign"] []
 m_Turn_step : Meth K C_Turn "step" f_Turn_step
 F_once : Fun K "once" "once" s_once f_once fd_once
 b_once : Binds K fd_once ["text"] []
 g_once : mg "once" = some (.ref f_once)
 F_Dialect_special : Fun K "special" "Dialect.special" s_Dialect_special f_Dialect_special fd_Dialect_special
 b_Dialect_special : Binds K fd_Dialect_special ["self"] []
 m_Dialect_special : Meth K C_Dialect "special" f_Dialect_special
 F_is_live : Fun K "is_live" "is_live" s_is_live f_is_live fd_is_live
 b_is_live : Binds K fd_is_live ["dialect", "state"] []
 g_is_live : mg "is_live" = some (.ref f_is_live)
 F_Turn_live_step : Fun K "live_step" "Turn.live_step" s_Turn_live_step f_Turn_live_step fd_Turn_live_step
 b_Turn_live_step : Binds K fd_Turn_live_step ["self", "state", "sign"] []
 m_Turn_live_step : Meth K C_Turn "live_step" f_Turn_live_step
 F_count_behind : Fun K "count_behind" "count_behind" s_count_behind f_count_behind fd_count_behind
 b_count_behind : Binds K fd_count_behind ["tokens", "count", "kind", "sign"] []
 g_count_behind : mg "count_behind" = some (.ref f_count_behind)
 F_Marker___init__ : Fun K "__init__" "Marker.__init__" s_Marker___init__ f_Marker___init__ fd_Marker___init__
 b_Marker___init__ : Binds K fd_Marker___init__ ["self", "dialect", "tokens"] []
 F_Marker_mark_behind : Fun K "mark_behind" "Marker.mark_behind" s_Marker_mark_behind f_Marker_mark_behind fd_Marker_mark_behind
 b_Marker_mark_behind : Binds K fd_Marker_mark_behind ["self", "mark", "sign"] []
 m_Marker_mark_behind : Meth K C_Marker "mark_behind" f_Marker_mark_behind
 F_Marker_has_read_all : Fun K "has_read_all" "Marker.has_read_all" s_Marker_has_read_all f_Marker_has_read_all fd_Marker_has_read_all
 b_Marker_has_read_all : Binds K fd_Marker_has_read_all ["self", "mark"] []
 m_Marker_has_read_all : Meth K C_Marker "has_read_all" f_Marker_has_read_all
 F_Writer___init__ : Fun K "__init__" "Writer.__init__" s_Writer___init__ f_Writer___init__ fd_Writer___init__
 b_Writer___init__ : Binds K fd_Writer___init__ ["self", "dialect", "tokens"] []
 F_Writer_leads : Fun K "leads" "Writer.leads" s_Writer_leads f_Writer_leads fd_Writer_leads
 b_Writer_leads : Binds K fd_Writer_leads ["self", "place"] []
 m_Writer_leads : Meth K C_Writer "leads" f_Writer_leads
 F_Writer_is_good : Fun K "is_good" "Writer.is_good" s_Writer_is_good f_Writer_is_good fd_Writer_is_good
 b_Writer_is_good : Binds K fd_Writer_is_good ["self", "place"] []
 m_Writer_is_good : Meth K C_Writer "is_good" f_Writer_is_good
 F_search : FunD K "search" "search" s_search f_search fd_search (.ref dt_search)
 b_search : Binds K fd_search ["first", "searched", "most"] []
 g_search : mg "search" = some (.ref f_search)
 F_text_to : Fun K "text_to" "text_to" s_text_to f_text_to fd_text_to
 b_text_to : Binds K fd_text_to ["came", "place"] []
 g_text_to : mg "text_to" = some (.ref f_text_to)
 F_is_cell : Fun K "is_cell" "is_cell" s_is_cell f_is_cell fd_is_cell
 b_is_cell : Binds K fd_is_cell ["thing"] []
 g_is_cell : mg "is_cell" = some (.ref f_is_cell)
 F_is_row : Fun K "is_row" "is_row" s_is_row f_is_row fd_is_row
 b_is_row : Binds K fd_is_row ["thing"] []
 g_is_row : mg "is_row" = some (.ref f_is_row)
 F_signs_in_row : Fun K "signs_in_row" "signs_in_row" s_signs_in_row f_signs_in_row fd_signs_in_row
 b_signs_in_row : Binds K fd_signs_in_row ["row"] []
 g_signs_in_row : mg "signs_in_row" = some (.ref f_signs_in_row)
 F_is_table : Fun K "is_table" "is_table" s_is_table f_is_table fd_is_table
 b_is_table : Binds K fd_is_table ["thing"] []
 g_is_table : mg "is_table" = some (.ref f_is_table)
 F_check_table : Fun K "check_table" "check_table" s_check_table f_check_table fd_check_table
 b_check_table : Binds K fd_check_table ["thing"] []
 g_check_table : mg "check_table" = some (.ref f_check_table)
 F_tokens_of_row : Fun K "tokens_of_row" "tokens_of_row" s_tokens_of_row f_tokens_of_row fd_tokens_of_row
 b_tokens_of_row : Binds K fd_tokens_of_row ["row"] []
 g_tokens_of_row : mg "tokens_of_row" = some (.ref f_tokens_of_row)
 F_tokens_of : Fun K "tokens_of" "tokens_of" s_tokens_of f_tokens_of fd_tokens_of
 b_tokens_of : Binds K fd_tokens_of ["table"] []
 g_tokens_of : mg "tokens_of" = some (.ref f_tokens_of)
 F_cell_at : Fun K "cell_at" "cell_at" s_cell_at f_cell_at fd_cell_at
 b_cell_at : Binds K fd_cell_at ["tokens", "count"] []
 g_cell_at : mg "cell_at" = some (.ref f_cell_at)
 F_NoWriting___init__ : Fun K "__init__" "NoWriting.__init__" s_NoWriting___init__ f_NoWriting___init__ fd_NoWriting___init__
 b_NoWriting___init__ : Binds K fd_NoWriting___init__ ["self", "row", "cell"] []
 F_shortest : Fun K "shortest" "shortest" s_shortest f_shortest fd_shortest
 b_shortest : Binds K fd_shortest ["dialect", "table"] []
 g_shortest : mg "shortest" = some (.ref f_shortest)
 F__law_cell_at : Fun K "_law_cell_at" "_law_cell_at" s__law_cell_at f__law_cell_at fd__law_cell_at
 b__law_cell_at : Binds K fd__law_cell_at ["_law_script", "_law_k"] []
 g__law_cell_at : mg "_law_cell_at" = some (.ref f__law_cell_at)
 F__law_mixed : Fun K "_law_mixed" "_law_mixed" s__law_mixed f__law_mixed fd__law_mixed
 b__law_mixed : Binds K fd__law_mixed ["_law_number_here", "_law_salt"] []
 g__law_mixed : mg "_law_mixed" = some (.ref f__law_mixed)
 F__law_number : Fun K "_law_number" "_law_number" s__law_number f__law_number fd__law_number
 b__law_number : Binds K fd__law_number ["_law_cell", "_law_salt"] []
 g__law_number : mg "_law_number" = some (.ref f__law_number)
 F__law_some : Fun K "_law_some" "_law_some" s__law_some f__law_some fd__law_some
 b__law_some : Binds K fd__law_some ["_law_number_here", "_law_many", "_law_menu"] []
 g__law_some : mg "_law_some" = some (.ref f__law_some)
 F__law_menus : Fun K "_law_menus" "_law_menus" s__law_menus f__law_menus fd__law_menus
 b__law_menus : Binds K fd__law_menus ["_law_way"] []
 g__law_menus : mg "_law_menus" = some (.ref f__law_menus)
 F__law_told : Fun K "_law_told" "_law_told" s__law_told f__law_told fd__law_told
 b__law_told : Binds K fd__law_told ["_law_cell"] []
 g__law_told : mg "_law_told" = some (.ref f__law_told)
 F__law_made : Fun K "_law_made" "_law_made" s__law_made f__law_made fd__law_made
 b__law_made : Binds K fd__law_made ["_law_told_here"] []
 g__law_made : mg "_law_made" = some (.ref f__law_made)
 F__law_row : Fun K "_law_row" "_law_row" s__law_row f__law_row fd__law_row
 b__law_row : Binds K fd__law_row ["_law_told_here", "_law_cell", "_law_salt", "_law_most"] []
 g__law_row : mg "_law_row" = some (.ref f__law_row)
 F__law_written : Fun K "_law_written" "_law_written" s__law_written f__law_written fd__law_written
 b__law_written : Binds K fd__law_written ["_law_made_here", "_law_table"] []
 g__law_written : mg "_law_written" = some (.ref f__law_written)
 F__law_first : Fun K "_law_first" "_law_first" s__law_first f__law_first fd__law_first
 b__law_first : Binds K fd__law_first ["_law_made_here", "_law_row_here"] []
 g__law_first : mg "_law_first" = some (.ref f__law_first)
 F__law_right : Fun K "_law_right" "_law_right" s__law_right f__law_right fd__law_right
 b__law_right : Binds K fd__law_right ["_law_made_here", "_law_row_here"] []
 g__law_right : mg "_law_right" = some (.ref f__law_right)
 F_law : Fun K "law" "law" s_law f_law fd_law
 b_law : Binds K fd_law ["_law_script"] []
 g_law : mg "law" = some (.ref f_law)
 cl_Dialect : Cls K C_Dialect
 g_Dialect : mg "Dialect" = some (.ref C_Dialect)
 M_Dialect : Mk K C_Dialect f_Dialect___init__
 n_Dialect_parts : NoAttr K C_Dialect "parts"
 n_Dialect_quotes : NoAttr K C_Dialect "quotes"
 n_Dialect_frees : NoAttr K C_Dialect "frees"
 n_Dialect_twin : NoAttr K C_Dialect "twin"
 n_Dialect_wide : NoAttr K C_Dialect "wide"
 n_Dialect_thin : NoAttr K C_Dialect "thin"
 n_Dialect_stray : NoAttr K C_Dialect "stray"
 cl_Turn : Cls K C_Turn
 g_Turn : mg "Turn" = some (.ref C_Turn)
 M_Turn : Mk K C_Turn f_Turn___init__
 n_Turn_dialect : NoAttr K C_Turn "dialect"
 cl_Marker : Cls K C_Marker
 g_Marker : mg "Marker" = some (.ref C_Marker)
 M_Marker : Mk K C_Marker f_Marker___init__
 n_Marker_turn : NoAttr K C_Marker "turn"
 n_Marker_tokens : NoAttr K C_Marker "tokens"
 cl_Writer : Cls K C_Writer
 g_Writer : mg "Writer" = some (.ref C_Writer)
 M_Writer : Mk K C_Writer f_Writer___init__
 n_Writer_marker : NoAttr K C_Writer "marker"
 n_Writer_tokens : NoAttr K C_Writer "tokens"
 n_Writer_usual : NoAttr K C_Writer "usual"
 bf_search_0 : ∃ ds, Vals [V.non] ds ∧ Binds K fd_search ["first", "searched", "most"] ds
 g_DialectError : mg "DialectError" = some (.ref C_DialectError)
 x_DialectError : XCl K C_DialectError N_DialectError bmVE none
 xi_DialectError : XIn K C_DialectError
 g_NoWriting : mg "NoWriting" = some (.ref C_NoWriting)
 x_NoWriting : XCl K C_NoWriting N_NoWriting (.ref C_DialectError :: bmVE) (some (.ref f_NoWriting___init__))
 kpx_NoWriting : PySem.W.keepIn K (.ref C_NoWriting) = true
 lf_NoWriting : ∃ oI : Obj, K.lookup f_NoWriting___init__ = some oI ∧ oI.cls = .type "function"
 xa_NoWriting_row : XAt K C_NoWriting "row"
 xa_NoWriting_cell : XAt K C_NoWriting "cell"
 no_all : mg "all" = none
 no_bool : mg "bool" = none
 no_enumerate : mg "enumerate" = none
 no_isinstance : mg "isinstance" = none
 no_len : mg "len" = none
 no_list : mg "list" = none
 no_max : mg "max" = none
 no_ord : mg "ord" = none
 no_range : mg "range" = none
 no_reversed : mg "reversed" = none
 no_str : mg "str" = none
 no_sum : mg "sum" = none
 no_tuple : mg "tuple" = none
 gl_LINE : ∃ t, mg "LINE" = some (.str z_LINE t)
 zl_LINE : z_LINE = Str.ofString "\n"
 gl_MOST_ROWS : ∃ t, mg "MOST_ROWS" = some (.int 60 t)
 gl_MOST_CELLS : ∃ t, mg "MOST_CELLS" = some (.int 20 t)
 gl_MOST_SIGNS_IN_CELLS : ∃ t, mg "MOST_SIGNS_IN_CELLS" = some (.int 400 t)
 gl_START : mg "START" = some (.ref a_START)
 tu_START : ∃ (o : Obj) (its : Array Value) (n : Nat), K.lookup a_START = some o ∧ o.cls = .type "tuple" ∧ o.data = .seq its n ∧ its.size ≤ sizeLine ∧ Vals [.str (Str.ofString "row"), .str (Str.ofString "")] its.toList
 gl_PART : mg "PART" = some (.ref a_PART)
 tu_PART : ∃ (o : Obj) (its : Array Value) (n : Nat), K.lookup a_PART = some o ∧ o.cls = .type "tuple" ∧ o.data = .seq its n ∧ its.size ≤ sizeLine ∧ Vals [.str (Str.ofString "part"), .str (Str.ofString "")] its.toList
 gl_END : mg "END" = some (.ref a_END)
 tu_END : ∃ (o : Obj) (its : Array Value) (n : Nat), K.lookup a_END = some o ∧ o.cls = .type "tuple" ∧ o.data = .seq its n ∧ its.size ≤ sizeLine ∧ Vals [.str (Str.ofString "end"), .str (Str.ofString "")] its.toList
section
variable {P : Program} {w : World} {K : PySem.W.Frag} {mg : Str → Option Value} {base : Heap} {f_is_printable f_has_signs_alone f_are_unlike_signs f_Dialect___init__ f_Dialect_told f_dialect_of f_step_at_beginning f_step_in_plain f_step_within f_step_behind f_step_in_doubt f_step_freed f_Turn___init__ f_Turn_step f_once f_Dialect_special f_is_live f_Turn_live_step f_count_behind f_Marker___init__ f_Marker_mark_behind f_Marker_has_read_all f_Writer___init__ f_Writer_leads f_Writer_is_good f_search f_text_to f_is_cell f_is_row f_signs_in_row f_is_table f_check_table f_tokens_of_row f_tokens_of f_cell_at f_NoWriting___init__ f_shortest f__law_cell_at f__law_mixed f__law_number f__law_some f__law_menus f__law_told f__law_made f__law_row f__law_written f__law_first f__law_right f_law C_Dialect C_Turn C_Marker C_Writer C_DialectError N_DialectError C_NoWriting N_NoWriting a_START a_PART a_END : Addr} {fd_is_printable fd_has_signs_alone fd_are_unlike_signs fd_Dialect___init__ fd_Dialect_told fd_dialect_of fd_step_at_beginning fd_step_in_plain fd_step_within fd_step_behind fd_step_in_doubt fd_step_freed fd_Turn___init__ fd_Turn_step fd_once fd_Dialect_special fd_is_live fd_Turn_live_step fd_count_behind fd_Marker___init__ fd_Marker_mark_behind fd_Marker_has_read_all fd_Writer___init__ fd_Writer_leads fd_Writer_is_good fd_search fd_text_to fd_is_cell fd_is_row fd_signs_in_row fd_is_table fd_check_table fd_tokens_of_row fd_tokens_of fd_cell_at fd_NoWriting___init__ fd_shortest fd__law_cell_at fd__law_mixed fd__law_number fd__law_some fd__law_menus fd__law_told fd__law_made fd__law_row fd__law_written fd__law_first fd__law_right fd_law : FuncData} {z_LINE : Str} {dt_Dialect___init__ dt_search : Addr}
def sp_is_printable : Sp := fun vs H Q _ => ∃ c : Nat, vs = [.str (sg c)] ∧ Pn c ∧ Q (.bl true) H
section
variable (T : Txt K mg f_is_printable f_has_signs_alone f_are_unlike_signs f_Dialect___init__ f_Dialect_told f_dialect_of f_step_at_beginning f_step_in_plain f_step_within f_step_behind f_step_in_doubt f_step_freed f_Turn___init__ f_Turn_step f_once f_Dialect_special f_is_live f_Turn_live_step f_count_behind f_Marker___init__ f_Marker_mark_behind f_Marker_has_read_all f_Writer___init__ f_Writer_leads f_Writer_is_good f_search f_text_to f_is_cell f_is_row f_signs_in_row f_is_table f_check_table f_tokens_of_row f_tokens_of f_cell_at f_NoWriting___init__ f_shortest f__law_cell_at f__law_mixed f__law_number f__law_some f__law_menus f__law_told f__law_made f__law_row f__law_written f__law_first f__law_right f_law C_Dialect C_Turn C_Marker C_Writer C_DialectError N_DialectError C_NoWriting N_NoWriting a_START a_PART a_END fd_is_printable fd_has_signs_alone fd_are_unlike_signs fd_Dialect___init__ fd_Dialect_told fd_dialect_of fd_step_at_beginning fd_step_in_plain fd_step_within fd_step_behind fd_step_in_doubt fd_step_freed fd_Turn___init__ fd_Turn_step fd_once fd_Dialect_special fd_is_live fd_Turn_live_step fd_count_behind fd_Marker___init__ fd_Marker_mark_behind fd_Marker_has_read_all fd_Writer___init__ fd_Writer_leads fd_Writer_is_good fd_search fd_text_to fd_is_cell fd_is_row fd_signs_in_row fd_is_table fd_check_table fd_tokens_of_row fd_tokens_of fd_cell_at fd_NoWriting___init__ fd_shortest fd__law_cell_at fd__law_mixed fd__law_number fd__law_some fd__law_menus fd__law_told fd__law_made fd__law_row fd__law_written fd__law_first fd__law_right fd_law z_LINE dt_Dialect___init__ dt_search)
include T
theorem ok_is_printable : FnOk P w K mg base CX0 1 f_is_printable fd_is_printable ["sign"] sp_is_printable := by
 refine T.F_is_printable.ok sc_is_printable (fun vs H Q E h => ?_) (fun cdv A outer s H vs Q E hr h => ?_)
 · obtain ⟨c, rfl, _⟩ := h; rfl
 · have hu := hu_of hr
   have hu0 := hr.units0
   obtain ⟨c, rfl, ⟨h1, h2, h3⟩, k⟩ := h
   refine ⟨_, (pss_cons (ps_set (i := 1) sc_is_printable.nd rfl (by first | exact Or.inl rfl | exact Or.inr rfl) (pe_callB call_ord rfl T.no_ord (by decide +kernel) (pa_cons (pv 0) pa_nil)))
     (pss_one (ps_ret (pe_and (pe_cmpR op_ge (pv 1) pe_int (nomark _)) (pe_and (pe_cmpR op_le (pv 1) pe_int (nomark _)) (pe_one (pe_cmpR op_ne (pv 1) pe_int (nomark _)))))))), ?_⟩
   refine ⟨_, rfl, _, rfl, rfl, ?_⟩
   refine ⟨_, rfl, _, _, rfl, rfl, _, rfl, iteD (by show (32 : Int) ≤ ((c : Nat) : Int); omega) ?_⟩
   refine ⟨_, rfl, _, _, rfl, rfl, _, rfl, iteD (by show ((c : Nat) : Int) ≤ 126; omega) ?_⟩
   refine ⟨_, rfl, rfl, ?_⟩
   have e : ¬ (V.int ((c : Nat) : Int) = V.int 37) := fun z => h3 (by injection z with z; omega)
   have e2 : (!decide (V.int ((c : Nat) : Int) = V.int 37)) = true := by rw [decide_eq_false e]; rfl
   show Q (.bl (!decide (V.int ((c : Nat) : Int) = V.int 37))) H
   rw [e2]
   exact k
def sp_has_signs_alone : Sp := fun vs H Q _ => ∃ z : Str, vs = [.str z] ∧ cellOk z ∧ z.length ≤ 2000 ∧ ∀ H', Same H H' → Q (.bl true) H'
theorem ok_has_signs_alone : FnOk P w K mg base CX0 2 f_has_signs_alone fd_has_signs_alone ["text"] sp_has_signs_alone := by
 have G_is_printable : FnOk P w K mg base CX0 1 f_is_printable fd_is_printable ["sign"] sp_is_printable := ok_is_printable T
 refine T.F_has_signs_alone.ok sc_has_signs_alone (fun vs H Q E h => ?_) (fun cdv A outer s H vs Q E hr h => ?_)
 · obtain ⟨z, rfl, _⟩ := h; rfl
 · have hu := hu_of hr
   have hu0 := hr.units0
   obtain ⟨z, rfl, g, hz, k⟩ := h
   refine ⟨_, (pss_one (ps_ret (pe_callB (callK_all K rfl rfl) rfl T.no_all (by decide +kernel) (pa_cons (pe_comp rfl (show CompScope ["text"] (defScope s_has_signs_alone) ["sign"] 1 [] _ from ⟨rfl, by decide +kernel, by decide +kernel, by decide +kernel, by decide +kernel, rfl, rfl, by decide +kernel⟩) (pi_str (pv 0)) (fun _ _ _ _ => (pg_name (i := 0) (show (["sign"] : List Str).Nodup by decide +kernel) rfl (by first | exact Or.inl rfl | exact Or.inr rfl))) (fun _ _ _ _ => pif_nil) (fun _ _ _ _ => (pe_or (pe_cmpR op_eq (pv 0) (pe_gstr rfl T.gl_LINE.choose_spec) (nomark _)) (pe_one (pe_call (k := 1) G_is_printable (hr.mono (by decide)) rfl T.g_is_printable T.F_is_printable.kp T.b_is_printable .nil pass0 (pa_cons (pv 0) pa_nil)))))) pa_nil)))), ?_⟩
   refine ⟨_, rfl, z, rfl, fun D hD => ?_⟩
   have hsz : z.cps.toList.length = z.length := by rw [Array.length_toList]; rfl
   refine comp_str (fun i ys τ H2 => (∃ v, τ = [v]) ∧ Same H H2 ∧ H2 D = some (.lst ys) ∧ ys = (List.replicate i true).map V.bl) ⟨⟨_, rfl⟩, same_new hD, upd_same, rfl⟩ (fun i ys τ H2 _ p => p.2.2.1) ?_ ?_
   · rintro i c ys τ H2 hi ⟨⟨v, rfl⟩, s2, hl, rfl⟩
     have hc : c ∈ z.cps.toList := List.mem_of_getElem? hi
     have hil : i < z.cps.toList.length := (List.getElem?_eq_some_iff.mp hi).1
     refine gyes ?_
     have fin : ∀ B : Prop, B = B → H2 D = some (.lst ((List.replicate i true).map V.bl)) ∧ ((List.replicate i true).map V.bl).length < sizeLine ∧ (∃ v, [some (V.str (sg c))] = [v]) ∧ Same H (upd H2 D (.lst ((List.replicate i true).map V.bl ++ [.bl true]))) ∧ (upd H2 D (.lst ((List.replicate i true).map V.bl ++ [.bl true]))) D = some (.lst ((List.replicate i true).map V.bl ++ [.bl true])) ∧ (List.replicate i true).map V.bl ++ [.bl true] = (List.replicate (i + 1) true).map V.bl := fun _ _ => by
       refine ⟨hl, ?_, ⟨_, rfl⟩, same_set hD s2, upd_same, ?_⟩
       · rw [List.length_map, List.length_replicate]
         exact Nat.lt_of_lt_of_le (show i < 2001 by omega) (by decide)
       · rw [List.replicate_succ', List.map_append]; rfl
     refine ⟨_, rfl, rfl, _, rfl, ite2 (fun _ => ?_) (fun h => ?_)⟩
     · exact fin True rfl
     · have hp : Pn c := (g c hc).resolve_left (sgL T.zl_LINE h)
       exact ⟨_, rfl, c, rfl, hp, fin True rfl⟩
   · rintro ys τ H2 ⟨⟨v, rfl⟩, s2, hl, rfl⟩
     refine ⟨D, List.replicate _ true, rfl, SqL.of hl, ?_⟩
     have e : (List.replicate z.cps.toList.length true).all id = true := by
       rw [List.all_eq_true]
       intro b hb
       exact (List.mem_replicate.mp hb).2
     rw [e]
     exact k H2 s2
def sp_are_unlike_signs : Sp := fun vs H Q _ => ∃ (z : Str) (lo hi : Int), vs = [.str z, .int lo, .int hi] ∧ Sg z ∧ lo ≤ z.length ∧ (z.length : Int) ≤ hi ∧ z.length ≤ 1000 ∧ ∀ H', Same H H' → Q (.bl true) H'
theorem ok_are_unlike_signs : FnOk P w K mg base CX0 2 f_are_unlike_signs fd_are_unlike_signs ["thing", "least", "most"] sp_are_unlike_signs := by
 have G_is_printable : FnOk P w K mg base CX0 1 f_is_printable fd_is_printable ["sign"] sp_is_printable := ok_is_printable T
 refine T.F_are_unlike_signs.ok sc_are_unlike_signs (fun vs H Q E h => ?_) (fun cdv A outer s H vs Q E hr h => ?_)
 · obtain ⟨z, lo, hi, rfl, _⟩ := h; rfl
 · have hu := hu_of hr
   have hu0 := hr.units0
   obtain ⟨z, lo, hi, rfl, g, hlo, hhi, hz, k⟩ := h
   have hzl : z.length ≤ sizeLine := Nat.le_trans hz (by decide)
   refine ⟨_, (pss_cons (ps_if (PW.pt (pw_or (pt_not (pt_val (pe_callB (callK_isinst K rfl) rfl T.no_isinstance (by decide +kernel) (pa_cons (pv 0) (pa_cons (pe_bty "str" rfl T.no_str (by decide +kernel)) pa_nil))))) (pw_or (pt_cmpR op_lt (pe_callB call_len_str rfl T.no_len (by decide +kernel) (pa_cons (pv 0) pa_nil)) (pv 1) (nomark _)) (pw_or1 (pt_cmpR op_gt (pe_callB call_len_str rfl T.no_len (by decide +kernel) (pa_cons (pv 0) pa_nil)) (pv 2) (nomark _)))))) (pss_one (ps_ret pe_bl)) pss_nil)
     (pss_one (ps_ret (pe_callB (callK_all K rfl rfl) rfl T.no_all (by decide +kernel) (pa_cons (pe_comp rfl (show CompScope ["thing", "least", "most"] (defScope s_are_unlike_signs) ["sign", "thing"] 1 [0] _ from ⟨rfl, by decide +kernel, by decide +kernel, by decide +kernel, by decide +kernel, rfl, rfl, by decide +kernel⟩) (pi_str (pv 0)) (fun _ _ _ _ => (pg_name (i := 0) (show (["sign", "thing"] : List Str).Nodup by decide +kernel) rfl (by first | exact Or.inl rfl | exact Or.inr rfl))) (fun _ _ _ _ => pif_nil) (fun _ _ _ _ => (pe_and (pe_call (k := 1) G_is_printable (hr.mono (by decide)) rfl T.g_is_printable T.F_is_printable.kp T.b_is_printable .nil pass0 (pa_cons (pv 0) pa_nil)) (pe_one (pe_cmpR op_eq (peK_bm K rfl PySem.F.plainAttrs_str PySem.F.slot_str_count PySem.F.type_str_count mt_count (pv 1) (pa_cons (pv 0) pa_nil)) pe_int (nomark _)))))) pa_nil))))), ?_⟩
   refine ⟨_, rfl, _, _, _, true, rfl, .str _, .inl ⟨_, rfl, rfl⟩, true, rfl, iteF ?_⟩
   refine ⟨_, rfl, z, rfl, hzl, _, rfl, _, _, rfl, rfl, _, rfl, iteDn (by omega) ?_⟩
   refine ⟨_, rfl, z, rfl, hzl, _, rfl, _, _, rfl, rfl, _, rfl, iteDn (by omega) ?_⟩
   refine ⟨_, rfl, z, rfl, fun D hD => ?_⟩
   have hsz : z.cps.toList.length = z.length := by rw [Array.length_toList]; rfl
   refine comp_str (fun i ys τ H2 => (∃ v, τ = [v, some (.str z)]) ∧ Same H H2 ∧ H2 D = some (.lst ys) ∧ ys = (List.replicate i true).map V.bl) ⟨⟨_, rfl⟩, same_new hD, upd_same, rfl⟩ (fun i ys τ H2 _ p => p.2.2.1) ?_ ?_
   · rintro i c ys τ H2 hi ⟨⟨v, rfl⟩, s2, hl, rfl⟩
     have hc : c ∈ z.cps.toList := List.mem_of_getElem? hi
     have hil : i < z.cps.toList.length := (List.getElem?_eq_some_iff.mp hi).1
     refine gyes ?_
     refine ⟨_, rfl, c, rfl, g.pr c hc, true, rfl, iteT ?_⟩
     refine ⟨_, rfl, rfl, _, rfl, z, c, rfl, rfl, rfl, ?_⟩
     have e : decide (V.int (PyProof.Rows.cnt c z.cps.toList) = V.int 1) = true := by rw [cnt_one g.nd hc]; exact decide_eq_true rfl
     rw [e]
     refine ⟨hl, ?_, ⟨_, rfl⟩, same_set hD s2, upd_same, ?_⟩
     · rw [List.length_map, List.length_replicate]
       exact Nat.lt_of_lt_of_le (show i < 1001 by omega) (by decide)
     · rw [List.replicate_succ', List.map_append]; rfl
   · rintro ys τ H2 ⟨⟨v, rfl⟩, s2, hl, rfl⟩
     refine ⟨D, List.replicate _ true, rfl, SqL.of hl, ?_⟩
     have e : (List.replicate z.cps.toList.length true).all id = true := by
       rw [List.all_eq_true]
       intro b hb
       exact (List.mem_replicate.mp hb).2
     rw [e]
     exact k H2 s2
def sp_Dialect___init__ (C : Addr) : Sp := fun vs H Q _ => ∃ (x dx : Addr) (p q f : Str) (b1 b2 b3 b4 : Bool), vs = .ref x :: seven p q f b1 b2 b3 b4 ∧ H x = some (.ins C dx []) ∧ Gd p q f ∧ ∀ H', H' x = some (.ins C dx (dfl p q f b1 b2 b3 b4)) → (∀ b o, H b = some o → b ≠ x → H' b = some o) → Q .non H'
theorem ok_Dialect___init__ : FnOk P w K mg base CX0 3 f_Dialect___init__ fd_Dialect___init__ ["self", "parts", "quotes", "frees", "twin", "wide", "thin", "stray"] (sp_Dialect___init__ C_Dialect) := by
 have G_are_unlike_signs : FnOk P w K mg base CX0 2 f_are_unlike_signs fd_are_unlike_signs ["thing", "least", "most"] sp_are_unlike_signs := ok_are_unlike_signs T
 refine T.F_Dialect___init__.ok sc_Dialect___init__ (fun vs H Q E h => ?_) (fun cdv A outer s H vs Q E hr h => ?_)
 · obtain ⟨x, dx, p, q, f, b1, b2, b3, b4, rfl, _⟩ := h; rfl
 · have hu := hu_of hr
   have hu0 := hr.units0
   obtain ⟨x, dx, p, q, f, b1, b2, b3, b4, rfl, hx, g, k⟩ := h
   have hp1 := g.p1; have hp3 := g.p3; have hq2 := g.q2; have hf2 := g.f2
   refine ⟨_, (pss_cons (ps_if (pt_not (pt_val (pe_call (k := 2) G_are_unlike_signs (hr.mono (by decide)) rfl T.g_are_unlike_signs T.F_are_unlike_signs.kp T.b_are_unlike_signs .nil pass0 (pa_cons (pv 1) (pa_cons pe_int (pa_cons pe_int pa_nil)))))) (pss_one ps_never) pss_nil)
     (pss_cons (ps_if (pt_not (pt_val (pe_call (k := 2) G_are_unlike_signs (hr.mono (by decide)) rfl T.g_are_unlike_signs T.F_are_unlike_signs.kp T.b_are_unlike_signs .nil pass0 (pa_cons (pv 2) (pa_cons pe_int (pa_cons pe_int pa_nil)))))) (pss_one ps_never) pss_nil)
     (pss_cons (ps_if (pt_not (pt_val (pe_call (k := 2) G_are_unlike_signs (hr.mono (by decide)) rfl T.g_are_unlike_signs T.F_are_unlike_signs.kp T.b_are_unlike_signs .nil pass0 (pa_cons (pv 3) (pa_cons pe_int (pa_cons pe_int pa_nil)))))) (pss_one ps_never) pss_nil)
     (pss_cons (ps_for PassesOwn.never rfl (piK_tup K rfl (pe_tup (pa_cons (pv 4) (pa_cons (pv 5) (pa_cons (pv 6) (pa_cons (pv 7) pa_nil)))))) (pg_name (i := 8) sc_Dialect___init__.nd rfl (by first | exact Or.inl rfl | exact Or.inr rfl))
     (pss_one (ps_if (pt_not (pt_val (pe_callB (callK_isinst K rfl) rfl T.no_isinstance (by decide +kernel) (pa_cons (pv 8) (pa_cons (pe_bty "bool" rfl T.no_bool (by decide +kernel)) pa_nil))))) (pss_one ps_never) pss_nil)))
     (pss_cons (ps_fld (pv 0) (pv 1) rfl)
     (pss_cons (ps_fld (pv 0) (pv 2) rfl)
     (pss_cons (ps_fld (pv 0) (pv 3) rfl)
     (pss_cons (ps_fld (pv 0) (pv 4) rfl)
     (pss_cons (ps_fld (pv 0) (pv 5) rfl)
     (pss_cons (ps_fld (pv 0) (pv 6) rfl)
     (pss_one (ps_fld (pv 0) (pv 7) rfl)))))))))))), ?_⟩
   refine ⟨_, rfl, p, 1, 3, rfl, g.gp, by omega, by omega, by omega, fun H1 s1 => ⟨true, rfl, iteF ?_⟩⟩
   refine ⟨_, rfl, q, 0, 2, rfl, g.gq, by omega, by omega, by omega, fun H2 s2 => ⟨true, rfl, iteF ?_⟩⟩
   refine ⟨_, rfl, f, 0, 2, rfl, g.gf, by omega, by omega, by omega, fun H3 s3 => ⟨true, rfl, iteF ?_⟩⟩
   refine ⟨_, rfl, _, rfl, _, rfl, _, rfl, (by show 4 ≤ sizeLine; decide), fun t ht => ⟨t, rfl, ⟨_, SqT.of upd_same⟩, ?_⟩⟩
   have s03 : Same H (upd H3 t (.tup [.bl b1, .bl b2, .bl b3, .bl b4])) := ((s1.trans s2).trans s3).trans (same_new ht)
   have htt : (upd H3 t (.tup [.bl b1, .bl b2, .bl b3, .bl b4])) t = some (.tup [.bl b1, .bl b2, .bl b3, .bl b4]) := upd_same
   generalize upd H3 t (.tup [.bl b1, .bl b2, .bl b3, .bl b4]) = H4 at s03 htt ⊢
   refine for_tup (K := K) (a := t) (xs := [.bl b1, .bl b2, .bl b3, .bl b4]) (fun i σ H5 => H5 = H4 ∧ ∃ v, σ = [some (.ref x), some (.str p), some (.str q), some (.str f), some (.bl b1), some (.bl b2), some (.bl b3), some (.bl b4), v]) ⟨rfl, _, rfl⟩ (fun i σ H5 _ q => by rw [q.1]; exact SqT.of htt) ?_ ?_
   · rintro i y σ H5 hi ⟨rfl, v, rfl⟩
     obtain ⟨b, rfl⟩ : ∃ b, y = V.bl b := by
       have hi4 : i < 4 := (List.getElem?_eq_some_iff.mp hi).1
       match i, hi4, hi with
       | 0, _, hi => exact ⟨_, (Option.some.inj hi).symm⟩
       | 1, _, hi => exact ⟨_, (Option.some.inj hi).symm⟩
       | 2, _, hi => exact ⟨_, (Option.some.inj hi).symm⟩
       | 3, _, hi => exact ⟨_, (Option.some.inj hi).symm⟩
     refine ⟨_, rfl, _, _, _, true, rfl, .bl _, .inl ⟨_, rfl, rfl⟩, true, rfl, iteF ?_⟩
     exact ⟨rfl, _, rfl⟩
   · rintro σ H5 ⟨rfl, v, rfl⟩
     have hx5 := s03 _ _ hx
     refine ⟨_, rfl, _, rfl, x, C_Dialect, dx, _, rfl, hx5, T.cl_Dialect, T.n_Dialect_parts, (by show 0 < 1000; decide), _, rfl, _, rfl, x, C_Dialect, dx, _, rfl, upd_same, T.cl_Dialect, T.n_Dialect_quotes, (by show 1 < 1000; decide), _, rfl, _, rfl, x, C_Dialect, dx, _, rfl, upd_same, T.cl_Dialect, T.n_Dialect_frees, (by show 2 < 1000; decide), _, rfl, _, rfl, x, C_Dialect, dx, _, rfl, upd_same, T.cl_Dialect, T.n_Dialect_twin, (by show 3 < 1000; decide),
       _, rfl, _, rfl, x, C_Dialect, dx, _, rfl, upd_same, T.cl_Dialect, T.n_Dialect_wide, (by show 4 < 1000; decide), _, rfl, _, rfl, x, C_Dialect, dx, _, rfl, upd_same, T.cl_Dialect, T.n_Dialect_thin, (by show 5 < 1000; decide), _, rfl, _, rfl, x, C_Dialect, dx, _, rfl, upd_same, T.cl_Dialect, T.n_Dialect_stray, (by show 6 < 1000; decide), ?_⟩
     refine k _ upd_same fun b o e hb => ?_
     rw [upd_ne hb, upd_ne hb, upd_ne hb, upd_ne hb, upd_ne hb, upd_ne hb, upd_ne hb]
     exact s03 _ _ e
def sp_Dialect_told (C : Addr) : Sp := fun vs H Q _ => ∃ (x dx : Addr) (p q f : Str) (b1 b2 b3 b4 : Bool), vs = [.ref x] ∧ H x = some (.ins C dx (dfl p q f b1 b2 b3 b4)) ∧ ∀ t, H t = none → Q (.ref t) (upd H t (.tup (seven p q f b1 b2 b3 b4)))
theorem ok_Dialect_told : FnOk P w K mg base CX0 1 f_Dialect_told fd_Dialect_told ["self"] (sp_Dialect_told C_Dialect) := by
 refine T.F_Dialect_told.ok sc_Dialect_told (fun vs H Q E h => ?_) (fun cdv A outer s H vs Q E hr h => ?_)
 · obtain ⟨x, dx, p, q, f, b1, b2, b3, b4, rfl, _⟩ := h; rfl
 · have hu := hu_of hr
   have hu0 := hr.units0
   obtain ⟨x, dx, p, q, f, b1, b2, b3, b4, rfl, hx, k⟩ := h
   refine ⟨_, (pss_one (ps_ret (pe_tup (pa_cons (peK_fld K rfl (pv 0) rfl) (pa_cons (peK_fld K rfl (pv 0) rfl) (pa_cons (peK_fld K rfl (pv 0) rfl) (pa_cons (peK_fld K rfl (pv 0) rfl) (pa_cons (peK_fld K rfl (pv 0) rfl) (pa_cons (peK_fld K rfl (pv 0) rfl) (pa_cons (peK_fld K rfl (pv 0) rfl) pa_nil)))))))))), ?_⟩
   refine ⟨_, rfl, x, C_Dialect, dx, _, _, rfl, hx, T.cl_Dialect, T.n_Dialect_parts, rfl, _, rfl, x, C_Dialect, dx, _, _, rfl, hx, T.cl_Dialect, T.n_Dialect_quotes, rfl, _, rfl, x, C_Dialect, dx, _, _, rfl, hx, T.cl_Dialect, T.n_Dialect_frees, rfl, _, rfl, x, C_Dialect, dx, _, _, rfl, hx, T.cl_Dialect, T.n_Dialect_twin, rfl, _, rfl, x, C_Dialect, dx, _, _, rfl, hx, T.cl_Dialect, T.n_Dialect_wide, rfl, _, rfl, x, C_Dialect, dx, _, _, rfl, hx, T.cl_Dialect, T.n_Dialect_thin, rfl, _, rfl, x, C_Dialect, dx, _, _, rfl, hx, T.cl_Dialect, T.n_Dialect_stray, rfl, (by show 7 ≤ sizeLine; decide), fun t ht => ?_⟩
   exact k t ht
def sp_dialect_of (C : Addr) : Sp := fun vs H Q _ => ∃ (t : Addr) (p q f : Str) (b1 b2 b3 b4 : Bool), vs = [.ref t] ∧ H t = some (.tup (seven p q f b1 b2 b3 b4)) ∧ Gd p q f ∧ ∀ (x dx : Addr) (H' : Hp), H x = none → H' x = some (.ins C dx (dfl p q f b1 b2 b3 b4)) → Same H H' → Q (.ref x) H'
theorem ok_dialect_of : FnOk P w K mg base CX0 5 f_dialect_of fd_dialect_of ["told"] (sp_dialect_of C_Dialect) := by
 have G_Dialect___init__ : FnOk P w K mg base CX0 3 f_Dialect___init__ fd_Dialect___init__ ["self", "parts", "quotes", "frees", "twin", "wide", "thin", "stray"] (sp_Dialect___init__ C_Dialect) := ok_Dialect___init__ T
 refine T.F_dialect_of.ok sc_dialect_of (fun vs H Q E h => ?_) (fun cdv A outer s H vs Q E hr h => ?_)
 · obtain ⟨t, p, q, f, b1, b2, b3, b4, rfl, _⟩ := h; rfl
 · have hu := hu_of hr
   have hu0 := hr.units0
   obtain ⟨t, p, q, f, b1, b2, b3, b4, rfl, ht, g, k⟩ := h
   have hS : SqT K H t (seven p q f b1 b2 b3 b4) := SqT.of ht
   refine ⟨_, (pss_cons (ps_if (PW.pt (pw_or (pt_not (pt_val (pe_callB (callK_isseq K rfl) rfl T.no_isinstance (by decide +kernel) (pa_cons (pv 0) (pa_cons (pe_bty "tuple" rfl T.no_tuple (by decide +kernel)) pa_nil))))) (pw_or1 (pt_cmpR op_ne (pe_callB (callK_len_seq K rfl) rfl T.no_len (by decide +kernel) (pa_cons (pv 0) pa_nil)) pe_int (nomark _))))) (pss_one ps_never) pss_nil)
     (pss_one (ps_ret (pe_make (k := 3) T.M_Dialect G_Dialect___init__ (hr.mono (by decide)) rfl T.g_Dialect T.b_Dialect___init__ .nil pass0 (pa_cons (pe_ix (ixK_tup K rfl) (pv 0) pe_int (fun _ _ => rfl)) (pa_cons (pe_ix (ixK_tup K rfl) (pv 0) pe_int (fun _ _ => rfl)) (pa_cons (pe_ix (ixK_tup K rfl) (pv 0) pe_int (fun _ _ => rfl)) (pa_cons (pe_ix (ixK_tup K rfl) (pv 0) pe_int (fun _ _ => rfl)) (pa_cons (pe_ix (ixK_tup K rfl) (pv 0) pe_int (fun _ _ => rfl)) (pa_cons (pe_ix (ixK_tup K rfl) (pv 0) pe_int (fun _ _ => rfl)) (pa_cons (pe_ix (ixK_tup K rfl) (pv 0) pe_int (fun _ _ => rfl)) pa_nil))))))))))), ?_⟩
   refine ⟨_, rfl, t, _, _, true, rfl, .inl ⟨hS, rfl⟩, true, rfl, iteF ?_⟩
   refine ⟨_, rfl, t, _, rfl, .inr hS, rfl, _, rfl, iteNS rfl ?_⟩
   refine ⟨_, rfl, t, _, _, _, rfl, rfl, hS, rfl, _, rfl, t, _, _, _, rfl, rfl, hS, rfl, _, rfl, t, _, _, _, rfl, rfl, hS, rfl, _, rfl, t, _, _, _, rfl, rfl, hS, rfl, _, rfl, t, _, _, _, rfl, rfl, hS, rfl, _, rfl, t, _, _, _, rfl, rfl, hS, rfl, _, rfl, t, _, _, _, rfl, rfl, hS, rfl, fun x dx hx hdx ne => ?_⟩
   refine ⟨x, dx, p, q, f, b1, b2, b3, b4, rfl, upd_same, g, fun H2 h2 kp => ⟨rfl, k x dx H2 hx h2 fun b o e => kp b o ?_ (ne_of_none e hx)⟩⟩
   rw [upd_ne (ne_of_none e hx), upd_ne (ne_of_none e hdx)]
   exact e
def sp_step_at_beginning (K : PySem.W.Frag) (C : Addr) : Sp := fun vs H Q _ => ∃ (x dx : Addr) (p q f : Str) (b1 b2 b3 b4 : Bool) (s : Addr) (w u : Str) (c : Nat), vs = [.ref x, .ref s, .str (sg c)] ∧ H x = some (.ins C dx (dfl p q f b1 b2 b3 b4)) ∧ SqT K H s [.str w, .str u] ∧ ∀ v H', Same H H' → RelR K H' v (mBegin p q f b3 w u c) → Q v H'
theorem ok_step_at_beginning : FnOk P w K mg base CX0 1 f_step_at_beginning fd_step_at_beginning ["dialect", "state", "sign"] (sp_step_at_beginning K C_Dialect) := by
 refine T.F_step_at_beginning.ok sc_step_at_beginning (fun vs H Q E h => ?_) (fun cdv A outer s H vs Q E hr h => ?_)
 · obtain ⟨x, dx, p, q, f, b1, b2, b3, b4, s, w, u, c, rfl, _⟩ := h; rfl
 · have hu := hu_of hr
   have hu0 := hr.units0
   obtain ⟨x, dx, p, q, f, b1, b2, b3, b4, s, w, u, c, rfl, hx, hs, k⟩ := h
   refine' ⟨_, ?aa, ?bb⟩
   case aa =>
     refine' pss_cons ?s0 ?r0
     case s0 =>
       refine' ps_if ?c1 ?b1 ?e1
       case c1 => exact (pt_cmpR op_in_str (pv 2) (peK_fld K rfl (pv 0) rfl) rfl)
       case b1 =>
         refine' pss_one ?s2
         case s2 =>
           refine' ps_ret ?v3
           case v3 =>
             refine' pe_tup ?a4
             case a4 =>
               refine' pa_cons ?x5 ?y5 ?z5
               case z5 => exact rfl
               case x5 =>
                 exact pe_str
               case y5 =>
                 refine' pa_cons ?x6 ?y6 ?z6
                 case z6 => exact rfl
                 case x6 =>
                   refine' pe_tup ?a7
                   case a7 =>
                     refine' pa_cons ?x8 ?y8 ?z8
                     case z8 => exact rfl
                     case x8 =>
                       exact pe_str
                     case y8 =>
                       refine' pa_cons ?x9 ?y9 ?z9
                       case z9 => exact rfl
                       case x9 =>
                         exact pe_str
                       case y9 =>
                         exact pa_nil
                 case y6 =>
                   exact pa_nil
       case e1 =>
         exact pss_nil
     case r0 =>
       refine' pss_cons ?s10 ?r10
       case s10 =>
         refine' ps_if ?c11 ?b11 ?e11
         case c11 => exact (pt_cmpR op_eq (pv 2) (pe_gstr rfl T.gl_LINE.choose_spec) (nomark _))
         case b11 =>
           refine' pss_one ?s12
           case s12 =>
             refine' ps_ret ?v13
             case v13 =>
               refine' pe_tup ?a14
               case a14 =>
                 refine' pa_cons ?x15 ?y15 ?z15
                 case z15 => exact rfl
                 case x15 =>
                   exact pe_str
                 case y15 =>
                   refine' pa_cons ?x16 ?y16 ?z16
                   case z16 => exact rfl
                   case x16 =>
                     exact (pe_gref rfl T.gl_START)
                   case y16 =>
                     exact pa_nil
         case e11 =>
           exact pss_nil
       case r10 =>
         refine' pss_cons ?s17 ?r17
         case s17 =>
           refine' ps_if ?c18 ?b18 ?e18
           case c18 => exact (pt_cmpR op_in_str (pv 2) (peK_fld K rfl (pv 0) rfl) rfl)
           case b18 =>
             refine' pss_one ?s19
             case s19 =>
               refine' ps_ret ?v20
               case v20 =>
                 refine' pe_tup ?a21
                 case a21 =>
                   refine' pa_cons ?x22 ?y22 ?z22
                   case z22 => exact rfl
                   case x22 =>
                     exact pe_str
                   case y22 =>
                     refine' pa_cons ?x23 ?y23 ?z23
                     case z23 => exact rfl
                     case x23 =>
                       refine' pe_tup ?a24
                       case a24 =>
                         refine' pa_cons ?x25 ?y25 ?z25
                         case z25 => exact rfl
                         case x25 =>
                           exact pe_str
                         case y25 =>
                           refine' pa_cons ?x26 ?y26 ?z26
                           case z26 => exact rfl
                           case x26 =>
                             exact (pv 2)
                           case y26 =>
                             exact pa_nil
                     case y23 =>
                       exact pa_nil
           case e18 =>
             exact pss_nil
         case r17 =>
           refine' pss_cons ?s27 ?r27
           case s27 =>
             refine' ps_if ?c28 ?b28 ?e28
             case c28 => exact (pt_cmpR op_in_str (pv 2) (peK_fld K rfl (pv 0) rfl) rfl)
             case b28 =>
               refine' pss_one ?s29
               case s29 =>
                 refine' ps_ret ?v30
                 case v30 =>
                   refine' pe_tup ?a31
                   case a31 =>
                     refine' pa_cons ?x32 ?y32 ?z32
                     case z32 => exact rfl
                     case x32 =>
                       exact pe_str
                     case y32 =>
                       refine' pa_cons ?x33 ?y33 ?z33
                       case z33 => exact rfl
                       case x33 =>
                         refine' pe_tup ?a34
                         case a34 =>
                           refine' pa_cons ?x35 ?y35 ?z35
                           case z35 => exact rfl
                           case x35 =>
                             exact pe_str
                           case y35 =>
                             refine' pa_cons ?x36 ?y36 ?z36
                             case z36 => exact rfl
                             case x36 =>
                               exact pe_str
                             case y36 =>
                               exact pa_nil
                       case y33 =>
                         exact pa_nil
             case e28 =>
               exact pss_nil
           case r27 =>
             refine' pss_cons ?s37 ?r37
             case s37 =>
               refine' ps_if ?c38 ?b38 ?e38
               case c38 => exact (PW.pt (pw_and (pt_cmpR op_eq (pv 2) pe_str (nomark _)) (pw_and1 (pt_val (peK_fld K rfl (pv 0) rfl)))))
               case b38 =>
                 refine' pss_one ?s39
                 case s39 =>
                   refine' ps_ret ?v40
                   case v40 =>
                     refine' pe_tup ?a41
                     case a41 =>
                       refine' pa_cons ?x42 ?y42 ?z42
                       case z42 => exact rfl
                       case x42 =>
                         exact pe_str
                       case y42 =>
                         refine' pa_cons ?x43 ?y43 ?z43
                         case z43 => exact rfl
                         case x43 =>
                           exact (pv 1)
                         case y43 =>
                           exact pa_nil
               case e38 =>
                 exact pss_nil
             case r37 =>
               refine' pss_one ?s44
               case s44 =>
                 refine' ps_ret ?v45
                 case v45 =>
                   refine' pe_tup ?a46
                   case a46 =>
                     refine' pa_cons ?x47 ?y47 ?z47
                     case z47 => exact rfl
                     case x47 =>
                       exact pe_str
                     case y47 =>
                       refine' pa_cons ?x48 ?y48 ?z48
                       case z48 => exact rfl
                       case x48 =>
                         refine' pe_tup ?a49
                         case a49 =>
                           refine' pa_cons ?x50 ?y50 ?z50
                           case z50 => exact rfl
                           case x50 =>
                             exact pe_str
                           case y50 =>
                             refine' pa_cons ?x51 ?y51 ?z51
                             case z51 => exact rfl
                             case x51 =>
                               exact pe_str
                             case y51 =>
                               exact pa_nil
                       case y48 =>
                         exact pa_nil
   have e2 : isS (sg c) z_LINE = isS (sg c) (Str.ofString "\n") := by rw [T.zl_LINE]
   refine ⟨_, rfl, _, rfl, x, C_Dialect, dx, _, _, rfl, hx, T.cl_Dialect, T.n_Dialect_frees, rfl, _, _, rfl, rfl, _, rfl, ite2 (fun (h1 : inS c f = true) => ?_) (fun (h1 : ¬ inS c f = true) => ?_)⟩
   · exact mk_go (by unfold mBegin; rw [if_pos h1]) kf_skip k
   refine ⟨_, rfl, rfl, _, rfl, ite2 (fun (h2 : isS (sg c) z_LINE = true) => ?_) (fun (h2 : ¬ isS (sg c) z_LINE = true) => ?_)⟩
   · rw [e2] at h2
     exact mk_goR (by unfold mBegin; rw [if_neg h1, if_pos h2]) kf_end (Same.refl _) (.inr T.tu_START) k
   rw [e2] at h2
   refine ⟨_, rfl, _, rfl, x, C_Dialect, dx, _, _, rfl, hx, T.cl_Dialect, T.n_Dialect_quotes, rfl, _, _, rfl, rfl, _, rfl, ite2 (fun (h3 : inS c q = true) => ?_) (fun (h3 : ¬ inS c q = true) => ?_)⟩
   · exact ⟨_, rfl, mk_go (by unfold mBegin; rw [if_neg h1, if_neg h2, if_pos h3]) kf_skip k⟩
   refine ⟨_, rfl, _, rfl, x, C_Dialect, dx, _, _, rfl, hx, T.cl_Dialect, T.n_Dialect_parts, rfl, _, _, rfl, rfl, _, rfl, ite2 (fun (h4 : inS c p = true) => ?_) (fun (h4 : ¬ inS c p = true) => ?_)⟩
   · exact mk_go (by unfold mBegin; rw [if_neg h1, if_neg h2, if_neg h3, if_pos h4]) kf_part k
   refine ⟨_, rfl, rfl, _, rfl, ite2 (fun (h5 : isS (sg c) (Str.ofString " ") = true) => ?_) (fun (h5 : ¬ isS (sg c) (Str.ofString " ") = true) => ?_)⟩
   · refine ⟨_, rfl, x, C_Dialect, dx, _, _, rfl, hx, T.cl_Dialect, T.n_Dialect_thin, rfl, _, rfl, ite2 (fun (h6 : b3 = true) => ?_) (fun (h6 : ¬ b3 = true) => ?_)⟩
     · exact ⟨_, rfl, mk_goR (by unfold mBegin; rw [if_neg h1, if_neg h2, if_neg h3, if_neg h4, if_pos h5, if_pos h6]) kf_skip (Same.refl _) hs k⟩
     exact mk_go (by unfold mBegin; rw [if_neg h1, if_neg h2, if_neg h3, if_neg h4, if_pos h5, if_neg h6]) kf_put k
   refine iteF ?_
   exact mk_go (by unfold mBegin; rw [if_neg h1, if_neg h2, if_neg h3, if_neg h4, if_neg h5]) kf_put k
def sp_step_in_plain (K : PySem.W.Frag) (C : Addr) : Sp := fun vs H Q _ => ∃ (x dx : Addr) (p q f : Str) (b1 b2 b3 b4 : Bool) (c : Nat), vs = [.ref x, .str (sg c)] ∧ H x = some (.ins C dx (dfl p q f b1 b2 b3 b4)) ∧ ∀ v H', Same H H' → RelR K H' v (mPlain p q f b4 c) → Q v H'
theorem ok_step_in_plain : FnOk P w K mg base CX0 1 f_step_in_plain fd_step_in_plain ["dialect", "sign"] (sp_step_in_plain K C_Dialect) := by
 refine T.F_step_in_plain.ok sc_step_in_plain (fun vs H Q E h => ?_) (fun cdv A outer s H vs Q E hr h => ?_)
 · obtain ⟨x, dx, p, q, f, b1, b2, b3, b4, c, rfl, _⟩ := h; rfl
 · have hu := hu_of hr
   have hu0 := hr.units0
   obtain ⟨x, dx, p, q, f, b1, b2, b3, b4, c, rfl, hx, k⟩ := h
   refine' ⟨_, ?aa, ?bb⟩
   case aa =>
     refine' pss_cons ?s0 ?r0
     case s0 =>
       refine' ps_if ?c1 ?b1 ?e1
       case c1 => exact (pt_cmpR op_in_str (pv 1) (peK_fld K rfl (pv 0) rfl) rfl)
       case b1 =>
         refine' pss_one ?s2
         case s2 =>
           refine' ps_ret ?v3
           case v3 =>
             refine' pe_tup ?a4
             case a4 =>
               refine' pa_cons ?x5 ?y5 ?z5
               case z5 => exact rfl
               case x5 =>
                 exact pe_str
               case y5 =>
                 refine' pa_cons ?x6 ?y6 ?z6
                 case z6 => exact rfl
                 case x6 =>
                   refine' pe_tup ?a7
                   case a7 =>
                     refine' pa_cons ?x8 ?y8 ?z8
                     case z8 => exact rfl
                     case x8 =>
                       exact pe_str
                     case y8 =>
                       refine' pa_cons ?x9 ?y9 ?z9
                       case z9 => exact rfl
                       case x9 =>
                         exact pe_str
                       case y9 =>
                         exact pa_nil
                 case y6 =>
                   exact pa_nil
       case e1 =>
         exact pss_nil
     case r0 =>
       refine' pss_cons ?s10 ?r10
       case s10 =>
         refine' ps_if ?c11 ?b11 ?e11
         case c11 => exact (pt_cmpR op_eq (pv 1) (pe_gstr rfl T.gl_LINE.choose_spec) (nomark _))
         case b11 =>
           refine' pss_one ?s12
           case s12 =>
             refine' ps_ret ?v13
             case v13 =>
               refine' pe_tup ?a14
               case a14 =>
                 refine' pa_cons ?x15 ?y15 ?z15
                 case z15 => exact rfl
                 case x15 =>
                   exact pe_str
                 case y15 =>
                   refine' pa_cons ?x16 ?y16 ?z16
                   case z16 => exact rfl
                   case x16 =>
                     exact (pe_gref rfl T.gl_START)
                   case y16 =>
                     exact pa_nil
         case e11 =>
           exact pss_nil
       case r10 =>
         refine' pss_cons ?s17 ?r17
         case s17 =>
           refine' ps_if ?c18 ?b18 ?e18
           case c18 => exact (pt_cmpR op_in_str (pv 1) (peK_fld K rfl (pv 0) rfl) rfl)
           case b18 =>
             refine' pss_one ?s19
             case s19 =>
               refine' ps_ret ?v20
               case v20 =>
                 refine' pe_tup ?a21
                 case a21 =>
                   refine' pa_cons ?x22 ?y22 ?z22
                   case z22 => exact rfl
                   case x22 =>
                     exact pe_str
                   case y22 =>
                     refine' pa_cons ?x23 ?y23 ?z23
                     case z23 => exact rfl
                     case x23 =>
                       refine' pe_tup ?a24
                       case a24 =>
                         refine' pa_cons ?x25 ?y25 ?z25
                         case z25 => exact rfl
                         case x25 =>
                           exact pe_str
                         case y25 =>
                           refine' pa_cons ?x26 ?y26 ?z26
                           case z26 => exact rfl
                           case x26 =>
                             exact pe_str
                           case y26 =>
                             exact pa_nil
                     case y23 =>
                       exact pa_nil
           case e18 =>
             exact pss_nil
         case r17 =>
           refine' pss_cons ?s27 ?r27
           case s27 =>
             refine' ps_if ?c28 ?b28 ?e28
             case c28 => exact (PW.pt (pw_and (pt_cmpR op_in_str (pv 1) (peK_fld K rfl (pv 0) rfl) rfl) (pw_and1 (pt_not (pt_val (peK_fld K rfl (pv 0) rfl))))))
             case b28 =>
               refine' pss_one ?s29
               case s29 =>
                 refine' ps_ret ?v30
                 case v30 =>
                   refine' pe_tup ?a31
                   case a31 =>
                     refine' pa_cons ?x32 ?y32 ?z32
                     case z32 => exact rfl
                     case x32 =>
                       exact pe_str
                     case y32 =>
                       refine' pa_cons ?x33 ?y33 ?z33
                       case z33 => exact rfl
                       case x33 =>
                         exact pe_str
                       case y33 =>
                         exact pa_nil
             case e28 =>
               exact pss_nil
           case r27 =>
             refine' pss_one ?s34
             case s34 =>
               refine' ps_ret ?v35
               case v35 =>
                 refine' pe_tup ?a36
                 case a36 =>
                   refine' pa_cons ?x37 ?y37 ?z37
                   case z37 => exact rfl
                   case x37 =>
                     exact pe_str
                   case y37 =>
                     refine' pa_cons ?x38 ?y38 ?z38
                     case z38 => exact rfl
                     case x38 =>
                       refine' pe_tup ?a39
                       case a39 =>
                         refine' pa_cons ?x40 ?y40 ?z40
                         case z40 => exact rfl
                         case x40 =>
                           exact pe_str
                         case y40 =>
                           refine' pa_cons ?x41 ?y41 ?z41
                           case z41 => exact rfl
                           case x41 =>
                             exact pe_str
                           case y41 =>
                             exact pa_nil
                     case y38 =>
                       exact pa_nil
   have e2 : isS (sg c) z_LINE = isS (sg c) (Str.ofString "\n") := by rw [T.zl_LINE]
   refine ⟨_, rfl, _, rfl, x, C_Dialect, dx, _, _, rfl, hx, T.cl_Dialect, T.n_Dialect_frees, rfl, _, _, rfl, rfl, _, rfl, ite2 (fun (h1 : inS c f = true) => ?_) (fun (h1 : ¬ inS c f = true) => ?_)⟩
   · exact mk_go (by unfold mPlain; rw [if_pos h1]) kf_skip k
   refine ⟨_, rfl, rfl, _, rfl, ite2 (fun (h2 : isS (sg c) z_LINE = true) => ?_) (fun (h2 : ¬ isS (sg c) z_LINE = true) => ?_)⟩
   · rw [e2] at h2
     exact mk_goR (by unfold mPlain; rw [if_neg h1, if_pos h2]) kf_end (Same.refl _) (.inr T.tu_START) k
   rw [e2] at h2
   refine ⟨_, rfl, _, rfl, x, C_Dialect, dx, _, _, rfl, hx, T.cl_Dialect, T.n_Dialect_parts, rfl, _, _, rfl, rfl, _, rfl, ite2 (fun (h3 : inS c p = true) => ?_) (fun (h3 : ¬ inS c p = true) => ?_)⟩
   · exact mk_go (by unfold mPlain; rw [if_neg h1, if_neg h2, if_pos h3]) kf_part k
   refine ⟨_, rfl, _, rfl, x, C_Dialect, dx, _, _, rfl, hx, T.cl_Dialect, T.n_Dialect_quotes, rfl, _, _, rfl, rfl, _, rfl, ite2 (fun (h4 : inS c q = true) => ?_) (fun (h4 : ¬ inS c q = true) => ?_)⟩
   · refine ⟨_, rfl, x, C_Dialect, dx, _, _, rfl, hx, T.cl_Dialect, T.n_Dialect_stray, rfl, _, rfl, ite2 (fun (h5 : (!b4) = true) => ?_) (fun (h5 : ¬ (!b4) = true) => ?_)⟩
     · exact mk_flt (by unfold mPlain; rw [if_neg h1, if_neg h2, if_neg h3, if_pos h4, if_pos h5]) k
     exact mk_go (by unfold mPlain; rw [if_neg h1, if_neg h2, if_neg h3, if_pos h4, if_neg h5]) kf_put k
   refine iteF ?_
   exact mk_go (by unfold mPlain; rw [if_neg h1, if_neg h2, if_neg h3, if_neg h4]) kf_put k
def sp_step_within (K : PySem.W.Frag) (C : Addr) : Sp := fun vs H Q _ => ∃ (x dx : Addr) (p q f : Str) (b1 b2 b3 b4 : Bool) (u : Str) (c : Nat), vs = [.ref x, .str u, .str (sg c)] ∧ H x = some (.ins C dx (dfl p q f b1 b2 b3 b4)) ∧ ∀ v H', Same H H' → RelR K H' v (mWithin f b1 b2 u c) → Q v H'
theorem ok_step_within : FnOk P w K mg base CX0 1 f_step_within fd_step_within ["dialect", "quote", "sign"] (sp_step_within K C_Dialect) := by
 refine T.F_step_within.ok sc_step_within (fun vs H Q E h => ?_) (fun cdv A outer s H vs Q E hr h => ?_)
 · obtain ⟨x, dx, p, q, f, b1, b2, b3, b4, u, c, rfl, _⟩ := h; rfl
 · have hu := hu_of hr
   have hu0 := hr.units0
   obtain ⟨x, dx, p, q, f, b1, b2, b3, b4, u, c, rfl, hx, k⟩ := h
   refine' ⟨_, ?aa, ?bb⟩
   case aa =>
     refine' pss_cons ?s0 ?r0
     case s0 =>
       refine' ps_if ?c1 ?b1 ?e1
       case c1 => exact (pt_cmpR op_in_str (pv 2) (peK_fld K rfl (pv 0) rfl) rfl)
       case b1 =>
         refine' pss_one ?s2
         case s2 =>
           refine' ps_ret ?v3
           case v3 =>
             refine' pe_tup ?a4
             case a4 =>
               refine' pa_cons ?x5 ?y5 ?z5
               case z5 => exact rfl
               case x5 =>
                 exact pe_str
               case y5 =>
                 refine' pa_cons ?x6 ?y6 ?z6
                 case z6 => exact rfl
                 case x6 =>
                   refine' pe_tup ?a7
                   case a7 =>
                     refine' pa_cons ?x8 ?y8 ?z8
                     case z8 => exact rfl
                     case x8 =>
                       exact pe_str
                     case y8 =>
                       refine' pa_cons ?x9 ?y9 ?z9
                       case z9 => exact rfl
                       case x9 =>
                         exact (pv 1)
                       case y9 =>
                         exact pa_nil
                 case y6 =>
                   exact pa_nil
       case e1 =>
         exact pss_nil
     case r0 =>
       refine' pss_cons ?s10 ?r10
       case s10 =>
         refine' ps_if ?c11 ?b11 ?e11
         case c11 => exact (pt_cmpR op_eq (pv 2) (pv 1) (nomark _))
         case b11 =>
           refine' pss_one ?s12
           case s12 =>
             refine' ps_ret ?v13
             case v13 =>
               refine' pe_tup ?a14
               case a14 =>
                 refine' pa_cons ?x15 ?y15 ?z15
                 case z15 => exact rfl
                 case x15 =>
                   exact pe_str
                 case y15 =>
                   refine' pa_cons ?x16 ?y16 ?z16
                   case z16 => exact rfl
                   case x16 =>
                     exact (pe_ifExp (pt_val (peK_fld K rfl (pv 0) rfl)) (pe_tup (pa_cons pe_str (pa_cons (pv 1) pa_nil))) (pe_tup (pa_cons pe_str (pa_cons pe_str pa_nil))))
                   case y16 =>
                     exact pa_nil
         case e11 =>
           exact pss_nil
       case r10 =>
         refine' pss_cons ?s17 ?r17
         case s17 =>
           refine' ps_if ?c18 ?b18 ?e18
           case c18 => exact (PW.pt (pw_and (pt_cmpR op_eq (pv 2) (pe_gstr rfl T.gl_LINE.choose_spec) (nomark _)) (pw_and1 (pt_not (pt_val (peK_fld K rfl (pv 0) rfl))))))
           case b18 =>
             refine' pss_one ?s19
             case s19 =>
               refine' ps_ret ?v20
               case v20 =>
                 refine' pe_tup ?a21
                 case a21 =>
                   refine' pa_cons ?x22 ?y22 ?z22
                   case z22 => exact rfl
                   case x22 =>
                     exact pe_str
                   case y22 =>
                     refine' pa_cons ?x23 ?y23 ?z23
                     case z23 => exact rfl
                     case x23 =>
                       exact pe_str
                     case y23 =>
                       exact pa_nil
           case e18 =>
             exact pss_nil
         case r17 =>
           refine' pss_one ?s24
           case s24 =>
             refine' ps_ret ?v25
             case v25 =>
               refine' pe_tup ?a26
               case a26 =>
                 refine' pa_cons ?x27 ?y27 ?z27
                 case z27 => exact rfl
                 case x27 =>
                   exact pe_str
                 case y27 =>
                   refine' pa_cons ?x28 ?y28 ?z28
                   case z28 => exact rfl
                   case x28 =>
                     refine' pe_tup ?a29
                     case a29 =>
                       refine' pa_cons ?x30 ?y30 ?z30
                       case z30 => exact rfl
                       case x30 =>
                         exact pe_str
                       case y30 =>
                         refine' pa_cons ?x31 ?y31 ?z31
                         case z31 => exact rfl
                         case x31 =>
                           exact (pv 1)
                         case y31 =>
                           exact pa_nil
                   case y28 =>
                     exact pa_nil
   have e2 : isS (sg c) z_LINE = isS (sg c) (Str.ofString "\n") := by rw [T.zl_LINE]
   refine ⟨_, rfl, _, rfl, x, C_Dialect, dx, _, _, rfl, hx, T.cl_Dialect, T.n_Dialect_frees, rfl, _, _, rfl, rfl, _, rfl, ite2 (fun (h1 : inS c f = true) => ?_) (fun (h1 : ¬ inS c f = true) => ?_)⟩
   · exact ⟨_, rfl, mk_go (by unfold mWithin; rw [if_pos h1]) kf_skip k⟩
   refine ⟨_, rfl, _, rfl, rfl, _, rfl, ite2 (fun (h2 : isS (sg c) u = true) => ?_) (fun (h2 : ¬ isS (sg c) u = true) => ?_)⟩
   · refine ⟨_, rfl, x, C_Dialect, dx, _, _, rfl, hx, T.cl_Dialect, T.n_Dialect_twin, rfl, _, rfl, ite2 (fun (h3 : b1 = true) => ?_) (fun (h3 : ¬ b1 = true) => ?_)⟩
     · exact ⟨_, rfl, mk_go (by unfold mWithin; rw [if_neg h1, if_pos h2, if_pos h3]) kf_skip k⟩
     exact mk_go (by unfold mWithin; rw [if_neg h1, if_pos h2, if_neg h3]) kf_skip k
   refine ⟨_, rfl, rfl, _, rfl, ite2 (fun (h3 : isS (sg c) z_LINE = true) => ?_) (fun (h3 : ¬ isS (sg c) z_LINE = true) => ?_)⟩
   · rw [e2] at h3
     refine ⟨_, rfl, x, C_Dialect, dx, _, _, rfl, hx, T.cl_Dialect, T.n_Dialect_wide, rfl, _, rfl, ite2 (fun (h4 : (!b2) = true) => ?_) (fun (h4 : ¬ (!b2) = true) => ?_)⟩
     · exact mk_flt (by unfold mWithin; rw [if_neg h1, if_neg h2, if_pos h3, if_pos h4]) k
     exact ⟨_, rfl, mk_go (by unfold mWithin; rw [if_neg h1, if_neg h2, if_pos h3, if_neg h4]) kf_put k⟩
   rw [e2] at h3
   refine iteF ?_
   exact ⟨_, rfl, mk_go (by unfold mWithin; rw [if_neg h1, if_neg h2, if_neg h3]) kf_put k⟩
def sp_step_behind (K : PySem.W.Frag) (C : Addr) : Sp := fun vs H Q _ => ∃ (x dx : Addr) (p q f : Str) (b1 b2 b3 b4 : Bool) (c : Nat), vs = [.ref x, .str (sg c)] ∧ H x = some (.ins C dx (dfl p q f b1 b2 b3 b4)) ∧ ∀ v H', Same H H' → RelR K H' v (mBehind p b3 c) → Q v H'
theorem ok_step_behind : FnOk P w K mg base CX0 1 f_step_behind fd_step_behind ["dialect", "sign"] (sp_step_behind K C_Dialect) := by
 refine T.F_step_behind.ok sc_step_behind (fun vs H Q E h => ?_) (fun cdv A outer s H vs Q E hr h => ?_)
 · obtain ⟨x, dx, p, q, f, b1, b2, b3, b4, c, rfl, _⟩ := h; rfl
 · have hu := hu_of hr
   have hu0 := hr.units0
   obtain ⟨x, dx, p, q, f, b1, b2, b3, b4, c, rfl, hx, k⟩ := h
   refine' ⟨_, ?aa, ?bb⟩
   case aa =>
     refine' pss_cons ?s0 ?r0
     case s0 =>
       refine' ps_if ?c1 ?b1 ?e1
       case c1 => exact (pt_cmpR op_eq (pv 1) (pe_gstr rfl T.gl_LINE.choose_spec) (nomark _))
       case b1 =>
         refine' pss_one ?s2
         case s2 =>
           refine' ps_ret ?v3
           case v3 =>
             refine' pe_tup ?a4
             case a4 =>
               refine' pa_cons ?x5 ?y5 ?z5
               case z5 => exact rfl
               case x5 =>
                 exact pe_str
               case y5 =>
                 refine' pa_cons ?x6 ?y6 ?z6
                 case z6 => exact rfl
                 case x6 =>
                   exact (pe_gref rfl T.gl_START)
                 case y6 =>
                   exact pa_nil
       case e1 =>
         exact pss_nil
     case r0 =>
       refine' pss_cons ?s7 ?r7
       case s7 =>
         refine' ps_if ?c8 ?b8 ?e8
         case c8 => exact (pt_cmpR op_in_str (pv 1) (peK_fld K rfl (pv 0) rfl) rfl)
         case b8 =>
           refine' pss_one ?s9
           case s9 =>
             refine' ps_ret ?v10
             case v10 =>
               refine' pe_tup ?a11
               case a11 =>
                 refine' pa_cons ?x12 ?y12 ?z12
                 case z12 => exact rfl
                 case x12 =>
                   exact pe_str
                 case y12 =>
                   refine' pa_cons ?x13 ?y13 ?z13
                   case z13 => exact rfl
                   case x13 =>
                     refine' pe_tup ?a14
                     case a14 =>
                       refine' pa_cons ?x15 ?y15 ?z15
                       case z15 => exact rfl
                       case x15 =>
                         exact pe_str
                       case y15 =>
                         refine' pa_cons ?x16 ?y16 ?z16
                         case z16 => exact rfl
                         case x16 =>
                           exact pe_str
                         case y16 =>
                           exact pa_nil
                   case y13 =>
                     exact pa_nil
         case e8 =>
           exact pss_nil
       case r7 =>
         refine' pss_cons ?s17 ?r17
         case s17 =>
           refine' ps_if ?c18 ?b18 ?e18
           case c18 => exact (PW.pt (pw_and (pt_cmpR op_eq (pv 1) pe_str (nomark _)) (pw_and1 (pt_val (peK_fld K rfl (pv 0) rfl)))))
           case b18 =>
             refine' pss_one ?s19
             case s19 =>
               refine' ps_ret ?v20
               case v20 =>
                 refine' pe_tup ?a21
                 case a21 =>
                   refine' pa_cons ?x22 ?y22 ?z22
                   case z22 => exact rfl
                   case x22 =>
                     exact pe_str
                   case y22 =>
                     refine' pa_cons ?x23 ?y23 ?z23
                     case z23 => exact rfl
                     case x23 =>
                       refine' pe_tup ?a24
                       case a24 =>
                         refine' pa_cons ?x25 ?y25 ?z25
                         case z25 => exact rfl
                         case x25 =>
                           exact pe_str
                         case y25 =>
                           refine' pa_cons ?x26 ?y26 ?z26
                           case z26 => exact rfl
                           case x26 =>
                             exact pe_str
                           case y26 =>
                             exact pa_nil
                     case y23 =>
                       exact pa_nil
           case e18 =>
             exact pss_nil
         case r17 =>
           refine' pss_one ?s27
           case s27 =>
             refine' ps_ret ?v28
             case v28 =>
               refine' pe_tup ?a29
               case a29 =>
                 refine' pa_cons ?x30 ?y30 ?z30
                 case z30 => exact rfl
                 case x30 =>
                   exact pe_str
                 case y30 =>
                   refine' pa_cons ?x31 ?y31 ?z31
                   case z31 => exact rfl
                   case x31 =>
                     exact pe_str
                   case y31 =>
                     exact pa_nil
   have e2 : isS (sg c) z_LINE = isS (sg c) (Str.ofString "\n") := by rw [T.zl_LINE]
   refine ⟨_, rfl, rfl, _, rfl, ite2 (fun (h1 : isS (sg c) z_LINE = true) => ?_) (fun (h1 : ¬ isS (sg c) z_LINE = true) => ?_)⟩
   · rw [e2] at h1
     exact mk_goR (by unfold mBehind; rw [if_pos h1]) kf_end (Same.refl _) (.inr T.tu_START) k
   rw [e2] at h1
   refine ⟨_, rfl, _, rfl, x, C_Dialect, dx, _, _, rfl, hx, T.cl_Dialect, T.n_Dialect_parts, rfl, _, _, rfl, rfl, _, rfl, ite2 (fun (h2 : inS c p = true) => ?_) (fun (h2 : ¬ inS c p = true) => ?_)⟩
   · exact mk_go (by unfold mBehind; rw [if_neg h1, if_pos h2]) kf_part k
   refine ⟨_, rfl, rfl, _, rfl, ite2 (fun (h3 : isS (sg c) (Str.ofString " ") = true) => ?_) (fun (h3 : ¬ isS (sg c) (Str.ofString " ") = true) => ?_)⟩
   · refine ⟨_, rfl, x, C_Dialect, dx, _, _, rfl, hx, T.cl_Dialect, T.n_Dialect_thin, rfl, _, rfl, ite2 (fun (h4 : b3 = true) => ?_) (fun (h4 : ¬ b3 = true) => ?_)⟩
     · exact mk_go (by unfold mBehind; rw [if_neg h1, if_neg h2, if_pos h3, if_pos h4]) kf_skip k
     exact mk_flt (by unfold mBehind; rw [if_neg h1, if_neg h2, if_pos h3, if_neg h4]) k
   refine iteF ?_
   exact mk_flt (by unfold mBehind; rw [if_neg h1, if_neg h2, if_neg h3]) k
def sp_step_in_doubt (K : PySem.W.Frag) (C : Addr) : Sp := fun vs H Q _ => ∃ (x dx : Addr) (p q f : Str) (b1 b2 b3 b4 : Bool) (u : Str) (c : Nat), vs = [.ref x, .str u, .str (sg c)] ∧ H x = some (.ins C dx (dfl p q f b1 b2 b3 b4)) ∧ ∀ v H', Same H H' → RelR K H' v (mDoubt p b3 u c) → Q v H'
theorem ok_step_in_doubt : FnOk P w K mg base CX0 2 f_step_in_doubt fd_step_in_doubt ["dialect", "quote", "sign"] (sp_step_in_doubt K C_Dialect) := by
 have G_step_behind : FnOk P w K mg base CX0 1 f_step_behind fd_step_behind ["dialect", "sign"] (sp_step_behind K C_Dialect) := ok_step_behind T
 refine T.F_step_in_doubt.ok sc_step_in_doubt (fun vs H Q E h => ?_) (fun cdv A outer s H vs Q E hr h => ?_)
 · obtain ⟨x, dx, p, q, f, b1, b2, b3, b4, u, c, rfl, _⟩ := h; rfl
 · have hu := hu_of hr
   have hu0 := hr.units0
   obtain ⟨x, dx, p, q, f, b1, b2, b3, b4, u, c, rfl, hx, k⟩ := h
   refine ⟨_, (pss_cons (ps_if (pt_cmpR op_eq (pv 2) (pv 1) (nomark _)) (pss_one (ps_ret (pe_tup (pa_cons pe_str (pa_cons (pe_tup (pa_cons pe_str (pa_cons (pv 1) pa_nil))) pa_nil))))) pss_nil)
     (pss_one (ps_ret (pe_call (k := 1) G_step_behind (hr.mono (by decide)) rfl T.g_step_behind T.F_step_behind.kp T.b_step_behind .nil pass0 (pa_cons (pv 0) (pa_cons (pv 2) pa_nil)))))), ?_⟩
   refine ⟨_, rfl, _, rfl, rfl, _, rfl, ite2 (fun (h1 : isS (sg c) u = true) => ?_) (fun (h1 : ¬ isS (sg c) u = true) => ?_)⟩
   · exact ⟨_, rfl, mk_go (by unfold mDoubt; rw [if_pos h1]) kf_put k⟩
   refine ⟨_, rfl, _, rfl, x, dx, p, q, f, b1, b2, b3, b4, c, rfl, hx, fun v H2 s2 r => k v H2 s2 ?_⟩
   unfold mDoubt
   rw [if_neg h1]
   exact r
def sp_step_freed (K : PySem.W.Frag) (C : Addr) : Sp := fun vs H Q _ => ∃ (x dx : Addr) (p q f : Str) (b1 b2 b3 b4 : Bool) (u : Str) (c : Nat), vs = [.ref x, .str u, .str (sg c)] ∧ H x = some (.ins C dx (dfl p q f b1 b2 b3 b4)) ∧ ∀ v H', Same H H' → RelR K H' v (mFreed b2 u c) → Q v H'
theorem ok_step_freed : FnOk P w K mg base CX0 1 f_step_freed fd_step_freed ["dialect", "quote", "sign"] (sp_step_freed K C_Dialect) := by
 refine T.F_step_freed.ok sc_step_freed (fun vs H Q E h => ?_) (fun cdv A outer s H vs Q E hr h => ?_)
 · obtain ⟨x, dx, p, q, f, b1, b2, b3, b4, u, c, rfl, _⟩ := h; rfl
 · have hu := hu_of hr
   have hu0 := hr.units0
   obtain ⟨x, dx, p, q, f, b1, b2, b3, b4, u, c, rfl, hx, k⟩ := h
   refine' ⟨_, ?aa, ?bb⟩
   case aa =>
     refine' pss_cons ?s0 ?r0
     case s0 =>
       refine' ps_if ?c1 ?b1 ?e1
       case c1 => exact (PW.pt (pw_and (pt_cmpR op_eq (pv 2) (pe_gstr rfl T.gl_LINE.choose_spec) (nomark _)) (pw_and1 (pt_not (pt_val (peK_fld K rfl (pv 0) rfl))))))
       case b1 =>
         refine' pss_one ?s2
         case s2 =>
           refine' ps_ret ?v3
           case v3 =>
             refine' pe_tup ?a4
             case a4 =>
               refine' pa_cons ?x5 ?y5 ?z5
               case z5 => exact rfl
               case x5 =>
                 exact pe_str
               case y5 =>
                 refine' pa_cons ?x6 ?y6 ?z6
                 case z6 => exact rfl
                 case x6 =>
                   exact pe_str
                 case y6 =>
                   exact pa_nil
       case e1 =>
         exact pss_nil
     case r0 =>
       refine' pss_one ?s7
       case s7 =>
         refine' ps_ret ?v8
         case v8 =>
           refine' pe_tup ?a9
           case a9 =>
             refine' pa_cons ?x10 ?y10 ?z10
             case z10 => exact rfl
             case x10 =>
               exact pe_str
             case y10 =>
               refine' pa_cons ?x11 ?y11 ?z11
               case z11 => exact rfl
               case x11 =>
                 exact (pe_ifExp (pt_cmpR op_eq (pv 1) pe_str (nomark _)) (pe_tup (pa_cons pe_str (pa_cons pe_str pa_nil))) (pe_tup (pa_cons pe_str (pa_cons (pv 1) pa_nil))))
               case y11 =>
                 exact pa_nil
   have e2 : isS (sg c) z_LINE = isS (sg c) (Str.ofString "\n") := by rw [T.zl_LINE]
   refine ⟨_, rfl, rfl, _, rfl, ite2 (fun (h1 : isS (sg c) z_LINE = true) => ?_) (fun (h1 : ¬ isS (sg c) z_LINE = true) => ?_)⟩
   · rw [e2] at h1
     refine ⟨_, rfl, x, C_Dialect, dx, _, _, rfl, hx, T.cl_Dialect, T.n_Dialect_wide, rfl, _, rfl, ite2 (fun (h2 : (!b2) = true) => ?_) (fun (h2 : ¬ (!b2) = true) => ?_)⟩
     · exact mk_flt (by unfold mFreed; rw [if_pos h1, if_pos h2]) k
     refine ⟨_, rfl, rfl, _, rfl, ite2 (fun (h9 : isS u (Str.ofString "") = true) => ?_) (fun (h9 : ¬ isS u (Str.ofString "") = true) => ?_)⟩
     · exact mk_go (by unfold mFreed mFreedX; rw [if_pos h1, if_neg h2, if_pos h9]) kf_put k
     exact ⟨_, rfl, mk_go (by unfold mFreed mFreedX; rw [if_pos h1, if_neg h2, if_neg h9]) kf_put k⟩
   rw [e2] at h1
   refine iteF ?_
   refine ⟨_, rfl, rfl, _, rfl, ite2 (fun (h9 : isS u (Str.ofString "") = true) => ?_) (fun (h9 : ¬ isS u (Str.ofString "") = true) => ?_)⟩
   · exact mk_go (by unfold mFreed mFreedX; rw [if_neg h1, if_pos h9]) kf_put k
   exact ⟨_, rfl, mk_go (by unfold mFreed mFreedX; rw [if_neg h1, if_neg h9]) kf_put k⟩
def sp_Turn___init__ (C CT : Addr) : Sp := fun vs H Q _ => ∃ (y dy x dx : Addr) (p q f : Str) (b1 b2 b3 b4 : Bool), vs = [.ref y, .ref x] ∧ H y = some (.ins CT dy []) ∧ H x = some (.ins C dx (dfl p q f b1 b2 b3 b4)) ∧ Gd p q f ∧ ∀ H', Tn C CT H' y p q f b1 b2 b3 b4 → (∀ b o, H b = some o → b ≠ y → H' b = some o) → Q .non H'
theorem ok_Turn___init__ : FnOk P w K mg base CX0 6 f_Turn___init__ fd_Turn___init__ ["self", "dialect"] (sp_Turn___init__ C_Dialect C_Turn) := by
 have G_Dialect_told : FnOk P w K mg base CX0 1 f_Dialect_told fd_Dialect_told ["self"] (sp_Dialect_told C_Dialect) := ok_Dialect_told T
 have G_dialect_of : FnOk P w K mg base CX0 5 f_dialect_of fd_dialect_of ["told"] (sp_dialect_of C_Dialect) := ok_dialect_of T
 refine T.F_Turn___init__.ok sc_Turn___init__ (fun vs H Q E h => ?_) (fun cdv A outer s H vs Q E hr h => ?_)
 · obtain ⟨y, dy, x, dx, p, q, f, b1, b2, b3, b4, rfl, _⟩ := h; rfl
 · have hu := hu_of hr
   have hu0 := hr.units0
   obtain ⟨y, dy, x, dx, p, q, f, b1, b2, b3, b4, rfl, hy, hx, g, k⟩ := h
   refine ⟨_, (pss_one (ps_fld (pv 0) (pe_call (k := 5) G_dialect_of (hr.mono (by decide)) rfl T.g_dialect_of T.F_dialect_of.kp T.b_dialect_of .nil pass0 (pa_cons (pe_meth0 (k := 1) (pv 1) T.cl_Dialect T.m_Dialect_told G_Dialect_told (hr.mono (by decide)) T.b_Dialect_told .nil pass0) pa_nil)) rfl)), ?_⟩
   refine ⟨_, rfl, x, dx, _, rfl, hx, rfl, x, dx, p, q, f, b1, b2, b3, b4, rfl, hx, fun t ht => ?_⟩
   have s1 := same_new (o := HO.tup (seven p q f b1 b2 b3 b4)) ht
   refine ⟨t, p, q, f, b1, b2, b3, b4, rfl, upd_same, g, fun d dd H2 hd h2 s2 => ?_⟩
   have s12 := s1.trans s2
   have nyd : d ≠ y := fun e => by subst e; rw [s1 _ _ hy] at hd; cases hd
   refine ⟨_, rfl, y, C_Turn, dy, _, rfl, s12 _ _ hy, T.cl_Turn, T.n_Turn_dialect, (by show 0 < 1000; decide), ?_⟩
   refine k _ ⟨⟨dy, d, dd, upd_same, (upd_ne nyd).trans h2⟩⟩ fun b o e hb => (upd_ne hb).trans (s12 _ _ e)
def sp_Turn_step (K : PySem.W.Frag) (C CT : Addr) : Sp := fun vs H Q _ => ∃ (y s : Addr) (w u : Str) (c : Nat) (p q f : Str) (b1 b2 b3 b4 : Bool), vs = [.ref y, .ref s, .str (sg c)] ∧ Tn C CT H y p q f b1 b2 b3 b4 ∧ SqT K H s [.str w, .str u] ∧ ∀ v H', Same H H' → RelR K H' v (stepM p q f b1 b2 b3 b4 w u c) → Q v H'
theorem ok_Turn_step : FnOk P w K mg base CX0 3 f_Turn_step fd_Turn_step ["self", "state", "sign"] (sp_Turn_step K C_Dialect C_Turn) := by
 have G_step_at_beginning : FnOk P w K mg base CX0 1 f_step_at_beginning fd_step_at_beginning ["dialect", "state", "sign"] (sp_step_at_beginning K C_Dialect) := ok_step_at_beginning T
 have G_step_behind : FnOk P w K mg base CX0 1 f_step_behind fd_step_behind ["dialect", "sign"] (sp_step_behind K C_Dialect) := ok_step_behind T
 have G_step_freed : FnOk P w K mg base CX0 1 f_step_freed fd_step_freed ["dialect", "quote", "sign"] (sp_step_freed K C_Dialect) := ok_step_freed T
 have G_step_in_doubt : FnOk P w K mg base CX0 2 f_step_in_doubt fd_step_in_doubt ["dialect", "quote", "sign"] (sp_step_in_doubt K C_Dialect) := ok_step_in_doubt T
 have G_step_in_plain : FnOk P w K mg base CX0 1 f_step_in_plain fd_step_in_plain ["dialect", "sign"] (sp_step_in_plain K C_Dialect) := ok_step_in_plain T
 have G_step_within : FnOk P w K mg base CX0 1 f_step_within fd_step_within ["dialect", "quote", "sign"] (sp_step_within K C_Dialect) := ok_step_within T
 refine T.F_Turn_step.ok sc_Turn_step (fun vs H Q E h => ?_) (fun cdv A outer s H vs Q E hr h => ?_)
 · obtain ⟨y, s, w, u, c, p, q, f, b1, b2, b3, b4, rfl, _⟩ := h; rfl
 · have hu := hu_of hr
   have hu0 := hr.units0
   obtain ⟨y, s, w, u, c, p, q, f, b1, b2, b3, b4, rfl, hT, hs, k⟩ := h
   obtain ⟨dy, d, dd, hy, hd⟩ := hT.ok
   refine ⟨_, (pss_cons (ps_set (i := 3) sc_Turn_step.nd rfl (by first | exact Or.inl rfl | exact Or.inr rfl) (pe_ix (ixK_tup K rfl) (pv 1) pe_int (fun _ _ => rfl)))
     (pss_cons (ps_set (i := 4) sc_Turn_step.nd rfl (by first | exact Or.inl rfl | exact Or.inr rfl) (pe_ix (ixK_tup K rfl) (pv 1) pe_int (fun _ _ => rfl)))
     (pss_cons (ps_if (pt_cmpR op_eq (pv 3) pe_str (nomark _)) (pss_one (ps_ret (pe_call (k := 1) G_step_in_plain (hr.mono (by decide)) rfl T.g_step_in_plain T.F_step_in_plain.kp T.b_step_in_plain .nil pass0 (pa_cons (peK_fld K rfl (pv 0) rfl) (pa_cons (pv 2) pa_nil))))) pss_nil)
     (pss_cons (ps_if (pt_cmpR op_eq (pv 3) pe_str (nomark _)) (pss_one (ps_ret (pe_call (k := 1) G_step_within (hr.mono (by decide)) rfl T.g_step_within T.F_step_within.kp T.b_step_within .nil pass0 (pa_cons (peK_fld K rfl (pv 0) rfl) (pa_cons (pv 4) (pa_cons (pv 2) pa_nil)))))) pss_nil)
     (pss_cons (ps_if (pt_cmpR op_eq (pv 3) pe_str (nomark _)) (pss_one (ps_ret (pe_call (k := 2) G_step_in_doubt (hr.mono (by decide)) rfl T.g_step_in_doubt T.F_step_in_doubt.kp T.b_step_in_doubt .nil pass0 (pa_cons (peK_fld K rfl (pv 0) rfl) (pa_cons (pv 4) (pa_cons (pv 2) pa_nil)))))) pss_nil)
     (pss_cons (ps_if (pt_cmpR op_eq (pv 3) pe_str (nomark _)) (pss_one (ps_ret (pe_call (k := 1) G_step_behind (hr.mono (by decide)) rfl T.g_step_behind T.F_step_behind.kp T.b_step_behind .nil pass0 (pa_cons (peK_fld K rfl (pv 0) rfl) (pa_cons (pv 2) pa_nil))))) pss_nil)
     (pss_cons (ps_if (pt_cmpR op_eq (pv 3) pe_str (nomark _)) (pss_one (ps_ret (pe_call (k := 1) G_step_freed (hr.mono (by decide)) rfl T.g_step_freed T.F_step_freed.kp T.b_step_freed .nil pass0 (pa_cons (peK_fld K rfl (pv 0) rfl) (pa_cons (pv 4) (pa_cons (pv 2) pa_nil)))))) pss_nil)
     (pss_one (ps_ret (pe_call (k := 1) G_step_at_beginning (hr.mono (by decide)) rfl T.g_step_at_beginning T.F_step_at_beginning.kp T.b_step_at_beginning .nil pass0 (pa_cons (peK_fld K rfl (pv 0) rfl) (pa_cons (pv 1) (pa_cons (pv 2) pa_nil))))))))))))), ?_⟩
   refine ⟨_, rfl, s, _, _, _, rfl, rfl, hs, rfl, _, rfl, s, _, _, _, rfl, rfl, hs, rfl, ?_⟩
   refine ⟨_, rfl, rfl, _, rfl, ite2 (fun (h1 : isS w (Str.ofString "plain") = true) => ?_) (fun (h1 : ¬ isS w (Str.ofString "plain") = true) => ?_)⟩
   · refine ⟨_, rfl, y, C_Turn, dy, _, _, rfl, hy, T.cl_Turn, T.n_Turn_dialect, rfl, _, rfl, d, dd, p, q, f, b1, b2, b3, b4, c, rfl, hd, fun v H2 s2 r => k v H2 s2 ?_⟩
     rw [sm_plain h1]
     exact r
   refine ⟨_, rfl, rfl, _, rfl, ite2 (fun (h2 : isS w (Str.ofString "within") = true) => ?_) (fun (h2 : ¬ isS w (Str.ofString "within") = true) => ?_)⟩
   · refine ⟨_, rfl, y, C_Turn, dy, _, _, rfl, hy, T.cl_Turn, T.n_Turn_dialect, rfl, _, rfl, _, rfl, d, dd, p, q, f, b1, b2, b3, b4, u, c, rfl, hd, fun v H2 s2 r => k v H2 s2 ?_⟩
     rw [sm_within h2]
     exact r
   refine ⟨_, rfl, rfl, _, rfl, ite2 (fun (h3 : isS w (Str.ofString "doubt") = true) => ?_) (fun (h3 : ¬ isS w (Str.ofString "doubt") = true) => ?_)⟩
   · refine ⟨_, rfl, y, C_Turn, dy, _, _, rfl, hy, T.cl_Turn, T.n_Turn_dialect, rfl, _, rfl, _, rfl, d, dd, p, q, f, b1, b2, b3, b4, u, c, rfl, hd, fun v H2 s2 r => k v H2 s2 ?_⟩
     rw [sm_doubt h3]
     exact r
   refine ⟨_, rfl, rfl, _, rfl, ite2 (fun (h4 : isS w (Str.ofString "behind") = true) => ?_) (fun (h4 : ¬ isS w (Str.ofString "behind") = true) => ?_)⟩
   · refine ⟨_, rfl, y, C_Turn, dy, _, _, rfl, hy, T.cl_Turn, T.n_Turn_dialect, rfl, _, rfl, d, dd, p, q, f, b1, b2, b3, b4, c, rfl, hd, fun v H2 s2 r => k v H2 s2 ?_⟩
     rw [sm_behind h4]
     exact r
   refine ⟨_, rfl, rfl, _, rfl, ite2 (fun (h5 : isS w (Str.ofString "freed") = true) => ?_) (fun (h5 : ¬ isS w (Str.ofString "freed") = true) => ?_)⟩
   · refine ⟨_, rfl, y, C_Turn, dy, _, _, rfl, hy, T.cl_Turn, T.n_Turn_dialect, rfl, _, rfl, _, rfl, d, dd, p, q, f, b1, b2, b3, b4, u, c, rfl, hd, fun v H2 s2 r => k v H2 s2 ?_⟩
     rw [sm_freed h5]
     exact r
   refine ⟨_, rfl, y, C_Turn, dy, _, _, rfl, hy, T.cl_Turn, T.n_Turn_dialect, rfl, _, rfl, _, rfl, d, dd, p, q, f, b1, b2, b3, b4, s, w, u, c, rfl, hd, hs, fun v H2 s2 r => k v H2 s2 ?_⟩
   rw [sm_open (no_of h2) (no_of h5) (no_of h3) (no_of h4)]
   unfold mOpen
   rw [if_neg h1]
   exact r
def sp_once : Sp := fun vs H Q _ => ∃ z : Str, vs = [.str z] ∧ z.length ≤ 4000 ∧ Q (.str (specM z)) H
theorem ok_once : FnOk P w K mg base CX0 1 f_once fd_once ["text"] sp_once := by
 refine T.F_once.ok sc_once (fun vs H Q E h => ?_) (fun cdv A outer s H vs Q E hr h => ?_)
 · obtain ⟨z, rfl, _⟩ := h; rfl
 · have hu := hu_of hr
   have hu0 := hr.units0
   obtain ⟨z, rfl, hz4, k⟩ := h
   have e0 : Str.ofString "" = ⟨(specL []).toArray⟩ := by decide +kernel
   have e0 : ([some (V.str z), some (V.str (Str.ofString "")), none] : St) = [some (.str z), some (.str ⟨(specL []).toArray⟩), none] := by rw [e0]
   refine ⟨_, (pss_cons (ps_set (i := 1) sc_once.nd rfl (by first | exact Or.inl rfl | exact Or.inr rfl) pe_str)
     (pss_cons (ps_for PassesOwn.never rfl (pi_str (pv 0)) (pg_name (i := 2) sc_once.nd rfl (by first | exact Or.inl rfl | exact Or.inr rfl))
     (pss_one (ps_if (pt_cmpR op_notIn_str (pv 2) (pv 1) rfl) (pss_one (ps_set (i := 1) sc_once.nd rfl (by first | exact Or.inl rfl | exact Or.inr rfl) (pe_op op_add_str (pv 1) (pv 2)))) pss_nil)))
     (pss_one (ps_ret (pv 1))))), ?_⟩
   refine ⟨_, rfl, _, rfl, ?_⟩
   unfold specM at k
   refine for_str (fun i σ H2 => H2 = H ∧ ∃ v, σ = [some (.str z), some (.str ⟨(specL (z.cps.toList.take i)).toArray⟩), v]) ⟨rfl, none, by rw [List.take_zero]; exact e0⟩ ?_ ?_
   · rintro i c σ H2 hi ⟨rfl, v, rfl⟩
     have hl : (specL (z.cps.toList.take i)).length ≤ 4000 := by
       refine Nat.le_trans (specL_len _) ?_
       rw [List.length_take, Array.length_toList]
       have : z.cps.size ≤ 4000 := hz4
       omega
     refine ⟨_, rfl, _, rfl, _, _, rfl, rfl, _, rfl, ?_⟩
     refine ite2 (fun ha => ?_) (fun ha => ?_)
     · have ha' : away ⟨(specL (z.cps.toList.take i)).toArray⟩ c = true := ha
       refine ⟨_, rfl, _, rfl, _, _, rfl, rfl, ?_, rfl, some (.str (sg c)), ?_⟩
       · refine Nat.le_trans (show _ ≤ 4001 from ?_) (by decide)
         show Array.size _ + 1 ≤ 4001
         rw [List.size_toArray]; omega
       · rw [take_snoc hi, specL_snoc]
         unfold stepS
         rw [if_pos ha', ← str_app]
         rfl
     · have ha' : ¬ away ⟨(specL (z.cps.toList.take i)).toArray⟩ c = true := ha
       refine ⟨rfl, some (.str (sg c)), ?_⟩
       rw [take_snoc hi, specL_snoc]
       unfold stepS
       rw [if_neg ha']
       rfl
   · rintro σ H2 ⟨rfl, v, rfl⟩
     refine ⟨_, rfl, ?_⟩
     rw [List.take_of_length_le (Nat.le_refl _)]
     exact k
def sp_Dialect_special (C : Addr) : Sp := fun vs H Q _ => ∃ (x dx : Addr) (p q f : Str) (b1 b2 b3 b4 : Bool), vs = [.ref x] ∧ H x = some (.ins C dx (dfl p q f b1 b2 b3 b4)) ∧ Gd p q f ∧ Q (.str (specM ((p ++ q) ++ f))) H
theorem ok_Dialect_special : FnOk P w K mg base CX0 2 f_Dialect_special fd_Dialect_special ["self"] (sp_Dialect_special C_Dialect) := by
 have G_once : FnOk P w K mg base CX0 1 f_once fd_once ["text"] sp_once := ok_once T
 refine T.F_Dialect_special.ok sc_Dialect_special (fun vs H Q E h => ?_) (fun cdv A outer s H vs Q E hr h => ?_)
 · obtain ⟨x, dx, p, q, f, b1, b2, b3, b4, rfl, _⟩ := h; rfl
 · have hu := hu_of hr
   have hu0 := hr.units0
   obtain ⟨x, dx, p, q, f, b1, b2, b3, b4, rfl, hx, g, k⟩ := h
   have hp3 := g.p3; have hq2 := g.q2; have hf2 := g.f2
   refine ⟨_, (pss_one (ps_ret (pe_call (k := 1) G_once (hr.mono (by decide)) rfl T.g_once T.F_once.kp T.b_once .nil pass0 (pa_cons (pe_op op_add_str (pe_op op_add_str (peK_fld K rfl (pv 0) rfl) (peK_fld K rfl (pv 0) rfl)) (peK_fld K rfl (pv 0) rfl)) pa_nil)))), ?_⟩
   refine ⟨_, rfl, x, C_Dialect, dx, _, _, rfl, hx, T.cl_Dialect, T.n_Dialect_parts, rfl, _, rfl, x, C_Dialect, dx, _, _, rfl, hx, T.cl_Dialect, T.n_Dialect_quotes, rfl, _, _, rfl, rfl, Nat.le_trans (show p.length + q.length ≤ 5 by omega) (by decide), _, rfl, x, C_Dialect, dx, _, _, rfl, hx, T.cl_Dialect, T.n_Dialect_frees, rfl, _, _, rfl, rfl, ?_, _, rfl, ?_, k⟩
   · rw [app_len]; exact Nat.le_trans (show p.length + q.length + f.length ≤ 7 by omega) (by decide)
   · rw [app_len, app_len]; omega
def sp_is_live (K : PySem.W.Frag) (C : Addr) : Sp := fun vs H Q _ => ∃ (x dx s : Addr) (w u : Str) (p q f : Str) (b1 b2 b3 b4 : Bool), vs = [.ref x, .ref s] ∧ H x = some (.ins C dx (dfl p q f b1 b2 b3 b4)) ∧ SqT K H s [.str w, .str u] ∧ Q (.bl (liveM f w u)) H
theorem ok_is_live : FnOk P w K mg base CX0 1 f_is_live fd_is_live ["dialect", "state"] (sp_is_live K C_Dialect) := by
 refine T.F_is_live.ok sc_is_live (fun vs H Q E h => ?_) (fun cdv A outer s H vs Q E hr h => ?_)
 · obtain ⟨x, dx, s, w, u, p, q, f, b1, b2, b3, b4, rfl, _⟩ := h; rfl
 · have hu := hu_of hr
   have hu0 := hr.units0
   obtain ⟨x, dx, s, w, u, p, q, f, b1, b2, b3, b4, rfl, hx, hs, k⟩ := h
   unfold liveM at k
   refine ⟨_, (pss_cons (ps_if (PW.pt (pw_or (pt_cmpR op_eq (pe_ix (ixK_tup K rfl) (pv 1) pe_int (fun _ _ => rfl)) pe_str (nomark _)) (pw_or1 (pt_cmpR op_eq (pe_ix (ixK_tup K rfl) (pv 1) pe_int (fun _ _ => rfl)) pe_str (nomark _))))) (pss_one (ps_ret pe_bl)) pss_nil)
     (pss_one (ps_ret (pe_cmpR op_notIn_str (pe_ix (ixK_tup K rfl) (pv 1) pe_int (fun _ _ => rfl)) (peK_fld K rfl (pv 0) rfl) rfl)))), ?_⟩
   refine ⟨_, rfl, s, _, _, _, rfl, rfl, hs, rfl, rfl, _, rfl, ite2 (fun (h1 : isS u (Str.ofString "") = true) => iteT ?_) (fun (h1 : ¬ isS u (Str.ofString "") = true) => ?_)⟩
   · rw [if_pos h1] at k
     exact k
   rw [if_neg h1] at k
   refine ⟨_, rfl, s, _, _, _, rfl, rfl, hs, rfl, rfl, _, rfl, ite2 (fun (h2 : isS w (Str.ofString "doubt") = true) => ?_) (fun (h2 : ¬ isS w (Str.ofString "doubt") = true) => ?_)⟩
   · rw [if_pos h2] at k
     exact k
   rw [if_neg h2] at k
   exact ⟨_, rfl, s, _, _, _, rfl, rfl, hs, rfl, _, rfl, x, C_Dialect, dx, _, _, rfl, hx, T.cl_Dialect, T.n_Dialect_frees, rfl, _, _, rfl, rfl, k⟩
def sp_Turn_live_step (K : PySem.W.Frag) (C CT : Addr) : Sp := fun vs H Q _ => ∃ (y s : Addr) (w u : Str) (c : Nat) (p q f : Str) (b1 b2 b3 b4 : Bool), vs = [.ref y, .ref s, .str (sg c)] ∧ Tn C CT H y p q f b1 b2 b3 b4 ∧ SqT K H s [.str w, .str u] ∧ ∀ v H', Same H H' → lvV K (liveStep p q f b1 b2 b3 b4 w u c) H' v → Q v H'
theorem ok_Turn_live_step : FnOk P w K mg base CX0 4 f_Turn_live_step fd_Turn_live_step ["self", "state", "sign"] (sp_Turn_live_step K C_Dialect C_Turn) := by
 have G_Turn_step : FnOk P w K mg base CX0 3 f_Turn_step fd_Turn_step ["self", "state", "sign"] (sp_Turn_step K C_Dialect C_Turn) := ok_Turn_step T
 have G_is_live : FnOk P w K mg base CX0 1 f_is_live fd_is_live ["dialect", "state"] (sp_is_live K C_Dialect) := ok_is_live T
 refine T.F_Turn_live_step.ok sc_Turn_live_step (fun vs H Q E h => ?_) (fun cdv A outer s H vs Q E hr h => ?_)
 · obtain ⟨y, s, w, u, c, p, q, f, b1, b2, b3, b4, rfl, _⟩ := h; rfl
 · have hu := hu_of hr
   have hu0 := hr.units0
   obtain ⟨y, s, w, u, c, p, q, f, b1, b2, b3, b4, rfl, hT, hs, k⟩ := h
   unfold liveStep at k
   refine ⟨_, (pss_cons (ps_if (pt_cmpR op_isN (pv 1) pe_non (nomark _)) (pss_one (ps_ret pe_non)) pss_nil)
     (pss_cons (ps_set (i := 3) sc_Turn_live_step.nd rfl (by first | exact Or.inl rfl | exact Or.inr rfl) (pe_meth (k := 3) (pv 0) T.cl_Turn T.m_Turn_step G_Turn_step (hr.mono (by decide)) T.b_Turn_step .nil pass0 (pa_cons (pv 1) (pa_cons (pv 2) pa_nil))))
     (pss_cons (ps_if (PW.pt (pw_or (pt_cmpR op_eq (pe_ix (ixK_tup K rfl) (pv 3) pe_int (fun _ _ => rfl)) pe_str (nomark _)) (pw_or1 (pt_not (pt_val (pe_call (k := 1) G_is_live (hr.mono (by decide)) rfl T.g_is_live T.F_is_live.kp T.b_is_live .nil pass0 (pa_cons (peK_fld K rfl (pv 0) rfl) (pa_cons (pe_ix (ixK_tup K rfl) (pv 3) pe_int (fun _ _ => rfl)) pa_nil)))))))) (pss_one (ps_ret pe_non)) pss_nil)
     (pss_one (ps_ret (pv 3)))))), ?_⟩
   obtain ⟨dy, d, dd, ey, ed⟩ := hT.ok
   refine ⟨_, rfl, rfl, _, rfl, rdDn (fun z => nomatch z) ⟨_, rfl, y, dy, _, rfl, ey, rfl, _, rfl, _, rfl, y, s, w, u, c, p, q, f, b1, b2, b3, b4, rfl, hT, hs, fun v H5 s5 r => ?_⟩⟩
   cases hr5 : stepM p q f b1 b2 b3 b4 w u c with
   | go kd w3 u3 =>
     rw [hr5] at r k
     obtain ⟨hk, a, b, rfl, ha, hb⟩ := r
     have ey5 := s5 _ _ ey
     have ed5 := s5 _ _ ed
     have k : ∀ v H', Same H H' → lvV K (if liveM f w3 u3 = true then some (kd, w3, u3) else none) H' v → Q v H' := k
     refine ⟨_, rfl, a, _, _, _, rfl, rfl, ha, rfl, rfl, _, rfl, iteBf hk ?_⟩
     refine ⟨_, rfl, y, _, _, _, _, rfl, ey5, T.cl_Turn, T.n_Turn_dialect, rfl, _, rfl, a, _, _, _, rfl, rfl, ha, rfl, d, dd, b, w3, u3, p, q, f, b1, b2, b3, b4, rfl, ed5, hb, _, rfl, ?_⟩
     by_cases hL : liveM f w3 u3 = true
     · rw [if_pos hL] at k
       exact iteNE hL ⟨_, rfl, k _ _ s5 ⟨a, b, rfl, ha, hb⟩⟩
     · rw [if_neg hL] at k
       exact iteNf (no_of hL) (k _ _ s5 rfl)
   | flt e =>
     rw [hr5] at r k
     obtain ⟨a, rfl, ha⟩ := r
     have k : ∀ v H', Same H H' → lvV K none H' v → Q v H' := k
     exact ⟨_, rfl, a, _, _, _, rfl, rfl, ha, rfl, rfl, _, rfl, iteBt (isS_self _) (iteT (k _ _ s5 rfl))⟩
def sp_count_behind (K : PySem.W.Frag) : Sp := fun vs H Q _ => ∃ (l : Addr) (ys : List V) (ts : List (Str × Str)) (n : Nat) (kd s : Str), vs = [.ref l, .int n, .str kd, .str s] ∧ H l = some (.lst ys) ∧ Paired (RelT K H) ys ts ∧ ∀ H', Same H H' → Q (cntV (cntM ts n kd s)) H'
theorem ok_count_behind : FnOk P w K mg base CX0 1 f_count_behind fd_count_behind ["tokens", "count", "kind", "sign"] (sp_count_behind K) := by
 refine T.F_count_behind.ok sc_count_behind (fun vs H Q E h => ?_) (fun cdv A outer s H vs Q E hr h => ?_)
 · obtain ⟨l, ys, ts, n, kd, s, rfl, _⟩ := h; rfl
 · have hu := hu_of hr
   have hu0 := hr.units0
   obtain ⟨l, ys, ts, n, kd, s, rfl, hl, tp, k⟩ := h
   have hu64 := hr.units
   refine ⟨_, (pss_cons (ps_if (pt_cmpR op_eq (pv 2) pe_str (nomark _)) (pss_one (ps_ret (pv 1))) pss_nil)
     (pss_cons (ps_set (i := 4) sc_count_behind.nd rfl (by first | exact Or.inl rfl | exact Or.inr rfl) (pe_tup (pa_cons (pv 2) (pa_cons (pe_ifExp (pt_cmpR op_eq (pv 2) pe_str (nomark _)) (pv 3) pe_str) pa_nil))))
     (pss_cons (ps_if (PW.pt (pw_and (pt_cmpR op_lt (pv 1) (pe_callB (callK_len_seq K rfl) rfl T.no_len (by decide +kernel) (pa_cons (pv 0) pa_nil)) (nomark _)) (pw_and1 (pt_cmpR (op_eqN (YL _ _ K) rfl (hn0 hu64)) (pe_ix (ixK_list K rfl) (pv 0) (pv 1) (fun _ _ => rfl)) (pv 4) (nomark _))))) (pss_one (ps_ret (pe_op op_add (pv 1) pe_int))) pss_nil)
     (pss_one (ps_ret pe_non))))), ?_⟩
   unfold cntM at k
   have tl := tp.length
   refine ⟨_, rfl, rfl, _, rfl, ite2 (fun (h1 : isS kd (Str.ofString "skip") = true) => ?_) (fun (h1 : ¬ isS kd (Str.ofString "skip") = true) => ?_)⟩
   · rw [if_pos h1] at k
     exact ⟨_, rfl, k H (Same.refl _)⟩
   rw [if_neg h1] at k
   refine ⟨_, rfl, _, rfl, rfl, _, rfl, ite2 (fun (h2 : isS kd (Str.ofString "put") = true) => ?_) (fun (h2 : ¬ isS kd (Str.ofString "put") = true) => ?_)⟩
   · rw [if_pos h2] at k
     refine ⟨_, rfl, (by show 2 ≤ sizeLine; decide), fun t ht => ?_⟩
     (have s1 := same_new (o := HO.tup [V.str kd, V.str s]) ht; have g1 := upd_same (H := H) (a := t) (o := HO.tup [V.str kd, V.str s]); generalize upd H t (HO.tup [V.str kd, V.str s]) = H1 at s1 g1 ⊢)
     have hl1 := s1 _ _ hl
     dsimp only [gName]
     refine ⟨_, rfl, _, rfl, l, _, rfl, .inl (SqL.of hl1), _, _, rfl, rfl, _, rfl, ite2 (fun h3 => ?_) (fun h3 => ?_)⟩
     · have h3 := of_decide_eq_true h3
       have hn : n < ys.length := by omega
       obtain ⟨y, hy⟩ : ∃ y, ys[n]? = some y := ⟨_, List.getElem?_eq_getElem hn⟩
       obtain ⟨⟨k1, s2⟩, ht1, a, rfl, ha⟩ := paired_get tp n y hy
       have hat : atI ys (n : Int) = some (.ref a) := atI_nat hy
       refine ⟨_, rfl, _, rfl, l, _, _, .ref a, rfl, rfl, SqL.of hl1, hat, _, rfl, a, t, _, _, rfl, rfl, pair_at (sqt_mono s1 ha), pair_at (SqT.of g1), _, rfl, ite2 (fun h4 => ?_) (fun h4 => ?_)⟩
       · have h4 := pairK_inj.mp (of_decide_eq_true h4)
         rw [ht1, if_pos (by rw [h4])] at k
         have kk := k H1 s1
         exact ⟨_, rfl, _, _, rfl, rfl, kk⟩
       · have h4 : ¬ (k1, s2) = (kd, s) := fun q => h4 (decide_eq_true (pairK_inj.mpr q))
         rw [ht1, if_neg (fun q => h4 (Option.some.inj q))] at k
         exact k H1 s1
     · have h3 := of_decide_eq_false (Bool.eq_false_iff.mpr h3)
       have hn : ts[n]? = none := List.getElem?_eq_none (by omega)
       rw [hn, if_neg (fun q => nomatch q)] at k
       exact k H1 s1
   · rw [if_neg h2] at k
     refine ⟨(by show 2 ≤ sizeLine; decide), fun t ht => ?_⟩
     (have s1 := same_new (o := HO.tup [V.str kd, V.str (Str.ofString "")]) ht; have g1 := upd_same (H := H) (a := t) (o := HO.tup [V.str kd, V.str (Str.ofString "")]); generalize upd H t (HO.tup [V.str kd, V.str (Str.ofString "")]) = H1 at s1 g1 ⊢)
     have hl1 := s1 _ _ hl
     dsimp only [gName]
     refine ⟨_, rfl, _, rfl, l, _, rfl, .inl (SqL.of hl1), _, _, rfl, rfl, _, rfl, ite2 (fun h3 => ?_) (fun h3 => ?_)⟩
     · have h3 := of_decide_eq_true h3
       have hn : n < ys.length := by omega
       obtain ⟨y, hy⟩ : ∃ y, ys[n]? = some y := ⟨_, List.getElem?_eq_getElem hn⟩
       obtain ⟨⟨k1, s2⟩, ht1, a, rfl, ha⟩ := paired_get tp n y hy
       have hat : atI ys (n : Int) = some (.ref a) := atI_nat hy
       refine ⟨_, rfl, _, rfl, l, _, _, .ref a, rfl, rfl, SqL.of hl1, hat, _, rfl, a, t, _, _, rfl, rfl, pair_at (sqt_mono s1 ha), pair_at (SqT.of g1), _, rfl, ite2 (fun h4 => ?_) (fun h4 => ?_)⟩
       · have h4 := pairK_inj.mp (of_decide_eq_true h4)
         rw [ht1, if_pos (by rw [h4])] at k
         have kk := k H1 s1
         exact ⟨_, rfl, _, _, rfl, rfl, kk⟩
       · have h4 : ¬ (k1, s2) = (kd, Str.ofString "") := fun q => h4 (decide_eq_true (pairK_inj.mpr q))
         rw [ht1, if_neg (fun q => h4 (Option.some.inj q))] at k
         exact k H1 s1
     · have h3 := of_decide_eq_false (Bool.eq_false_iff.mpr h3)
       have hn : ts[n]? = none := List.getElem?_eq_none (by omega)
       rw [hn, if_neg (fun q => nomatch q)] at k
       exact k H1 s1
def sp_Marker___init__ (K : PySem.W.Frag) (C CT CM : Addr) : Sp := fun vs H Q _ => ∃ (m dm x dx l : Addr) (ys : List V) (ts : List (Str × Str)) (p q f : Str) (b1 b2 b3 b4 : Bool), vs = [.ref m, .ref x, .ref l] ∧ H m = some (.ins CM dm []) ∧ H x = some (.ins C dx (dfl p q f b1 b2 b3 b4)) ∧ Gd p q f ∧ H l = some (.lst ys) ∧ Paired (RelT K H) ys ts ∧ ∀ H', Mkr K C CT CM H' m p q f b1 b2 b3 b4 ts → (∀ b o, H b = some o → b ≠ m → H' b = some o) → Q .non H'
theorem ok_Marker___init__ : FnOk P w K mg base CX0 8 f_Marker___init__ fd_Marker___init__ ["self", "dialect", "tokens"] (sp_Marker___init__ K C_Dialect C_Turn C_Marker) := by
 have G_Turn___init__ : FnOk P w K mg base CX0 6 f_Turn___init__ fd_Turn___init__ ["self", "dialect"] (sp_Turn___init__ C_Dialect C_Turn) := ok_Turn___init__ T
 refine T.F_Marker___init__.ok sc_Marker___init__ (fun vs H Q E h => ?_) (fun cdv A outer s H vs Q E hr h => ?_)
 · obtain ⟨m, dm, x, dx, l, ys, ts, p, q, f, b1, b2, b3, b4, rfl, _⟩ := h; rfl
 · have hu := hu_of hr
   have hu0 := hr.units0
   obtain ⟨m, dm, x, dx, l, ys, ts, p, q, f, b1, b2, b3, b4, rfl, hm, hx, g, hl, tp, k⟩ := h
   refine ⟨_, (pss_cons (ps_fld (pv 0) (pe_make (k := 6) T.M_Turn G_Turn___init__ (hr.mono (by decide)) rfl T.g_Turn T.b_Turn___init__ .nil pass0 (pa_cons (pv 1) pa_nil)) rfl)
     (pss_one (ps_fld (pv 0) (pv 2) rfl))), ?_⟩
   refine ⟨_, rfl, fun y dy hy hdy ne => ⟨y, dy, x, dx, p, q, f, b1, b2, b3, b4, rfl, upd_same, made_old hy hdy hx, g, fun H2 hT kp => ⟨rfl, ?_⟩⟩⟩
   have s2 := same_make hy hdy kp
   have hm2 := s2 _ _ hm
   refine ⟨_, rfl, m, C_Marker, dm, _, rfl, hm2, T.cl_Marker, T.n_Marker_turn, (by show 0 < 1000; decide), ?_⟩
   refine ⟨_, rfl, _, rfl, m, C_Marker, dm, _, rfl, upd_same, T.cl_Marker, T.n_Marker_tokens, (by show 1 < 1000; decide), ?_⟩
   have nlm : l ≠ m := fun q => by rw [q, hm] at hl; cases hl
   refine k _ ⟨dm, y, l, ys, upd_same, ?_, (upd_ne nlm).trans ((upd_ne nlm).trans (s2 _ _ hl)), toks_ins upd_same (toks_ins hm2 (toks_mono s2 tp))⟩ fun b o e hb => (upd_ne hb).trans ((upd_ne hb).trans (s2 _ _ e))
   refine Tn.off upd_same ?_ ?_ (Tn.off hm2 ?_ ?_ hT)
   · intro d fs q; injection q with q1 q2 q3; injection q3 with q4 q5; injection q4 with q6 q7; exact absurd q6 (by decide +kernel)
   · intro d q; injection q with q1 q2 q3; injection q3 with q4 q5; injection q4 with q6 q7; exact absurd q6 (by decide +kernel)
   · intro d fs q; injection q with q1 q2 q3; cases q3
   · intro d q; injection q with q1 q2 q3; cases q3
def sp_Marker_mark_behind (K : PySem.W.Frag) (C CT CM : Addr) : Sp := fun vs H Q _ => ∃ (m : Addr) (v : V) (mk : Mrk) (c : Nat) (ts : List (Str × Str)) (p q f : Str) (b1 b2 b3 b4 : Bool), vs = [.ref m, v, .str (sg c)] ∧ Mkr K C CT CM H m p q f b1 b2 b3 b4 ts ∧ MrkAt K H mk v ∧ ∀ v' H', Same H H' → mrkV K (mrkM p q f b1 b2 b3 b4 ts mk c) H' v' → Q v' H'
theorem ok_Marker_mark_behind : FnOk P w K mg base CX0 5 f_Marker_mark_behind fd_Marker_mark_behind ["self", "mark", "sign"] (sp_Marker_mark_behind K C_Dialect C_Turn C_Marker) := by
 have G_Turn_live_step : FnOk P w K mg base CX0 4 f_Turn_live_step fd_Turn_live_step ["self", "state", "sign"] (sp_Turn_live_step K C_Dialect C_Turn) := ok_Turn_live_step T
 have G_count_behind : FnOk P w K mg base CX0 1 f_count_behind fd_count_behind ["tokens", "count", "kind", "sign"] (sp_count_behind K) := ok_count_behind T
 refine T.F_Marker_mark_behind.ok sc_Marker_mark_behind (fun vs H Q E h => ?_) (fun cdv A outer s H vs Q E hr h => ?_)
 · obtain ⟨m, v, mk, c, ts, p, q, f, b1, b2, b3, b4, rfl, _⟩ := h; rfl
 · have hu := hu_of hr
   have hu0 := hr.units0
   obtain ⟨m, v, mk, c, ts, p, q, f, b1, b2, b3, b4, rfl, hM, hv, k⟩ := h
   obtain ⟨dm, y, l, ys, em, eT, el, tp⟩ := hM.ok
   obtain ⟨b, s, rfl, hb, hs⟩ := hv
   obtain ⟨dy, d, dd, ey, ed⟩ := eT.ok
   refine ⟨_, (pss_cons (ps_if (pt_cmpR op_isN (pv 1) pe_non (nomark _)) (pss_one (ps_ret pe_non)) pss_nil)
     (pss_cons (ps_set (i := 3) sc_Marker_mark_behind.nd rfl (by first | exact Or.inl rfl | exact Or.inr rfl) (pe_meth (k := 4) (peK_fld K rfl (pv 0) rfl) T.cl_Turn T.m_Turn_live_step G_Turn_live_step (hr.mono (by decide)) T.b_Turn_live_step .nil pass0 (pa_cons (pe_ix (ixK_tup K rfl) (pv 1) pe_int (fun _ _ => rfl)) (pa_cons (pv 2) pa_nil))))
     (pss_cons (ps_if (pt_cmpR op_isN (pv 3) pe_non (nomark _)) (pss_one (ps_ret pe_non)) pss_nil)
     (pss_cons (ps_set (i := 4) sc_Marker_mark_behind.nd rfl (by first | exact Or.inl rfl | exact Or.inr rfl) (pe_call (k := 1) G_count_behind (hr.mono (by decide)) rfl T.g_count_behind T.F_count_behind.kp T.b_count_behind .nil pass0 (pa_cons (peK_fld K rfl (pv 0) rfl) (pa_cons (pe_ix (ixK_tup K rfl) (pv 1) pe_int (fun _ _ => rfl)) (pa_cons (pe_ix (ixK_tup K rfl) (pv 3) pe_int (fun _ _ => rfl)) (pa_cons (pv 2) pa_nil))))))
     (pss_one (ps_ret (pe_ifExp (pt_cmpR op_isN (pv 4) pe_non (nomark _)) pe_non (pe_tup (pa_cons (pe_ix (ixK_tup K rfl) (pv 3) pe_int (fun _ _ => rfl)) (pa_cons (pv 4) pa_nil)))))))))), ?_⟩
   unfold mrkM at k
   refine ⟨_, rfl, rfl, _, rfl, rdDn (fun z => nomatch z) (⟨_, rfl, _, _, _, _, _, rfl, em, T.cl_Marker, T.n_Marker_turn, rfl, _, _, _, rfl, ey, rfl, _, rfl, _, _, _, _, rfl, rfl, hb, rfl, _, rfl, _, _, _, _, _, _, _, _, _, _, _, _, rfl, eT, hs, fun v5 H5 s5 r => ?_⟩)⟩
   cases hL : liveStep p q f b1 b2 b3 b4 mk.1.1 mk.1.2 c with
   | none =>
     rw [hL] at r k
     have r : v5 = .non := r
     subst r
     have k : ∀ v' H', Same H H' → mrkV K none H' v' → Q v' H' := k
     exact ⟨_, rfl, rfl, _, rfl, rdD rfl (k _ _ s5 rfl)⟩
   | some kwu =>
     obtain ⟨kd, w3, u3⟩ := kwu
     rw [hL] at r k
     obtain ⟨a, b2, rfl, ha, hb2⟩ := r
     have k : ∀ v' H', Same H H' → mrkV K (match cntM ts mk.2 kd (sg c) with | none => none | some n => some ((w3, u3), n)) H' v' → Q v' H' := k
     have em5 := s5 _ _ em
     have el5 := s5 _ _ el
     have tp5 := toks_mono s5 tp
     have hb5 := sqt_mono s5 hb
     refine ⟨_, rfl, rfl, _, rfl, rdDn (fun z => nomatch z) ?_⟩
     refine ⟨_, rfl, _, _, _, _, _, rfl, em5, T.cl_Marker, T.n_Marker_tokens, rfl, _, rfl, _, _, _, _, rfl, rfl, hb5, rfl, _, rfl, _, _, _, _, rfl, rfl, ha, rfl, _, rfl, l, ys, ts, mk.2, kd, sg c, rfl, el5, tp5, fun H6 s6 => ?_⟩
     have s56 := s5.trans s6
     cases hC : cntM ts mk.2 kd (sg c) with
     | none =>
       rw [hC] at k
       exact ⟨_, rfl, rfl, _, rfl, rdD rfl (k _ _ s56 rfl)⟩
     | some n =>
       rw [hC] at k
       refine ⟨_, rfl, rfl, _, rfl, rdDn (fun z => nomatch z) ⟨_, rfl, _, _, _, _, rfl, rfl, sqt_mono s6 ha, rfl, _, rfl, (by show 2 ≤ sizeLine; decide), fun t ht => ?_⟩⟩
       exact k _ _ (s56.trans (same_new ht)) ⟨t, b2, rfl, SqT.of upd_same, sqt_mono (s6.trans (same_new ht)) hb2⟩
def sp_Marker_has_read_all (K : PySem.W.Frag) (C CT CM : Addr) : Sp := fun vs H Q _ => ∃ (m : Addr) (v : V) (mk : Mrk) (ts : List (Str × Str)) (p q f : Str) (b1 b2 b3 b4 : Bool), vs = [.ref m, v] ∧ Mkr K C CT CM H m p q f b1 b2 b3 b4 ts ∧ MrkAt K H mk v ∧ ∀ H', Same H H' → Q (.bl (decide (mk = ((Str.ofString "row", Str.ofString ""), ts.length)))) H'
theorem ok_Marker_has_read_all : FnOk P w K mg base CX0 1 f_Marker_has_read_all fd_Marker_has_read_all ["self", "mark"] (sp_Marker_has_read_all K C_Dialect C_Turn C_Marker) := by
 refine T.F_Marker_has_read_all.ok sc_Marker_has_read_all (fun vs H Q E h => ?_) (fun cdv A outer s H vs Q E hr h => ?_)
 · obtain ⟨m, v, mk, ts, p, q, f, b1, b2, b3, b4, rfl, _⟩ := h; rfl
 · have hu := hu_of hr
   have hu0 := hr.units0
   obtain ⟨m, v, mk, ts, p, q, f, b1, b2, b3, b4, rfl, hM, hv, k⟩ := h
   have hu64 := hr.units
   obtain ⟨dm, y, l, ys, em, eT, el, tp⟩ := hM.ok
   obtain ⟨b, s, rfl, hb, hs⟩ := hv
   have tl := tp.length
   refine ⟨_, (pss_one (ps_ret (pe_cmpR (op_eqN (YM _ _ K) rfl (hn1 hu64)) (pv 1) (pe_tup (pa_cons (pe_gref rfl T.gl_START) (pa_cons (pe_callB (callK_len_seq K rfl) rfl T.no_len (by decide +kernel) (pa_cons (peK_fld K rfl (pv 0) rfl) pa_nil)) pa_nil))) (nomark _)))), ?_⟩
   refine ⟨_, rfl, _, rfl, _, _, _, _, _, rfl, em, T.cl_Marker, T.n_Marker_tokens, rfl, _, _, rfl, .inl (SqL.of el), (by show (2 : Nat) ≤ sizeLine; decide), fun t ht => ?_⟩
   (have st := same_new (o := HO.tup [V.ref a_START, V.int ↑ys.length]) ht; have g1 := upd_same (H := H) (a := t) (o := HO.tup [V.ref a_START, V.int ↑ys.length]); generalize upd H t (HO.tup [V.ref a_START, V.int ↑ys.length]) = H1 at st g1 ⊢)
   have e1 : KAt (YM _ _ K) H1 (markK mk) b := mark_at (P := P) (w := w) (sqt_mono st hb) (sqt_mono st hs)
   have e2 : KAt (YM _ _ K) H1 (markK ((Str.ofString "row", Str.ofString ""), ts.length)) t := mark_at (P := P) (w := w) (m := ((Str.ofString "row", Str.ofString ""), ts.length)) (by rw [← tl]; exact SqT.of g1) (.inr T.tu_START)
   refine ⟨b, t, _, _, rfl, rfl, e1, e2, ?_⟩
   have ed : decide (markK mk = markK ((Str.ofString "row", Str.ofString ""), ts.length)) = decide (mk = ((Str.ofString "row", Str.ofString ""), ts.length)) := by rw [Bool.eq_iff_iff, decide_eq_true_iff, decide_eq_true_iff]; exact markK_inj
   rw [ed]
   exact k _ st
def sp_Writer___init__ (K : PySem.W.Frag) (C CT CM CW : Addr) : Sp := fun vs H Q _ => ∃ (z dz x dx l : Addr) (ys : List V) (ts : List (Str × Str)) (p q f : Str) (b1 b2 b3 b4 : Bool), vs = [.ref z, .ref x, .ref l] ∧ H z = some (.ins CW dz []) ∧ H x = some (.ins C dx (dfl p q f b1 b2 b3 b4)) ∧ Gd p q f ∧ H l = some (.lst ys) ∧ Paired (RelT K H) ys ts ∧ ∀ H', Wrt K C CT CM CW H' z p q f b1 b2 b3 b4 ts → (∀ b o, H b = some o → b ≠ z → H' b = some o) → Q .non H'
theorem ok_Writer___init__ : FnOk P w K mg base CX0 10 f_Writer___init__ fd_Writer___init__ ["self", "dialect", "tokens"] (sp_Writer___init__ K C_Dialect C_Turn C_Marker C_Writer) := by
 have G_Dialect_special : FnOk P w K mg base CX0 2 f_Dialect_special fd_Dialect_special ["self"] (sp_Dialect_special C_Dialect) := ok_Dialect_special T
 have G_Marker___init__ : FnOk P w K mg base CX0 8 f_Marker___init__ fd_Marker___init__ ["self", "dialect", "tokens"] (sp_Marker___init__ K C_Dialect C_Turn C_Marker) := ok_Marker___init__ T
 refine T.F_Writer___init__.ok sc_Writer___init__ (fun vs H Q E h => ?_) (fun cdv A outer s H vs Q E hr h => ?_)
 · obtain ⟨z, dz, x, dx, l, ys, ts, p, q, f, b1, b2, b3, b4, rfl, _⟩ := h; rfl
 · have hu := hu_of hr
   have hu0 := hr.units0
   obtain ⟨z, dz, x, dx, l, ys, ts, p, q, f, b1, b2, b3, b4, rfl, hz, hx, g, hl, tp, k⟩ := h
   refine ⟨_, (pss_cons (ps_fld (pv 0) (pe_make (k := 8) T.M_Marker G_Marker___init__ (hr.mono (by decide)) rfl T.g_Marker T.b_Marker___init__ .nil pass0 (pa_cons (pv 1) (pa_cons (pv 2) pa_nil))) rfl)
     (pss_cons (ps_fld (pv 0) (pv 2) rfl)
     (pss_one (ps_fld (pv 0) (pe_op op_add_str (pe_op op_add_str (pe_meth0 (k := 2) (pv 1) T.cl_Dialect T.m_Dialect_special G_Dialect_special (hr.mono (by decide)) T.b_Dialect_special .nil pass0) (pe_gstr rfl T.gl_LINE.choose_spec)) pe_str) rfl)))), ?_⟩
   refine ⟨_, rfl, _, rfl, fun m dm hm hdm ne => ⟨m, dm, x, dx, l, ys, ts, p, q, f, b1, b2, b3, b4, rfl, upd_same, made_old hm hdm hx, g, made_old hm hdm hl, toks_mono (same_ins' hm hdm) tp, fun H2 hM kp => ⟨rfl, ?_⟩⟩⟩
   have s2 := same_make hm hdm kp
   have hz2 := s2 _ _ hz
   refine ⟨_, rfl, z, C_Writer, dz, _, rfl, hz2, T.cl_Writer, T.n_Writer_marker, (by show 0 < 1000; decide), ?_⟩
   refine ⟨_, rfl, _, rfl, z, C_Writer, dz, _, rfl, upd_same, T.cl_Writer, T.n_Writer_tokens, (by show 1 < 1000; decide), ?_⟩
   have nx : x ≠ z := fun q => by rw [q, hz] at hx; injection hx with hx; injection hx with h1 h2 h3; cases h3
   have nl : l ≠ z := fun q => by rw [q, hz] at hl; cases hl
   have hx4 := (upd_ne (o := HO.ins C_Writer dz [("marker", V.ref m), ("tokens", V.ref l)]) nx).trans ((upd_ne (o := HO.ins C_Writer dz [("marker", V.ref m)]) nx).trans (s2 _ _ hx))
   have sl := specM_len ((p ++ q) ++ f)
   have a1 := app_len p q
   have a2 := app_len (p ++ q) f
   have hp3 := g.p3; have hq2 := g.q2; have hf2 := g.f2
   have zl : z_LINE.length = 1 := by rw [T.zl_LINE]; decide +kernel
   have sp1 : (Str.ofString " ").length = 1 := by decide +kernel
   have a3 := app_len (specM ((p ++ q) ++ f)) z_LINE
   have szb : 1000 ≤ sizeLine := by decide
   refine ⟨_, rfl, _, _, _, rfl, hx4, rfl, _, _, _, _, _, _, _, _, _, rfl, hx4, g, _, _, rfl, rfl, by omega, _, _, rfl, rfl, by omega, _, rfl, _, _, _, _, rfl, upd_same, T.cl_Writer, T.n_Writer_usual, (by show 2 < 1000; decide), k _ ?_ fun b o e hb => (upd_ne hb).trans ((upd_ne hb).trans ((upd_ne hb).trans (s2 _ _ e)))⟩
   have h3 : (upd H2 z (HO.ins C_Writer dz [("marker", V.ref m)])) z = some (HO.ins C_Writer dz [("marker", V.ref m)]) := upd_same
   have h4 : (upd (upd H2 z (HO.ins C_Writer dz [("marker", V.ref m)])) z (HO.ins C_Writer dz [("marker", V.ref m), ("tokens", V.ref l)])) z = some (HO.ins C_Writer dz [("marker", V.ref m), ("tokens", V.ref l)]) := upd_same
   refine ⟨dz, m, l, ys, ?_, Mkr.off h4 ?_ ?_ ?_ (Mkr.off h3 ?_ ?_ ?_ (Mkr.off hz2 ?_ ?_ ?_ hM)), (upd_ne nl).trans ((upd_ne nl).trans ((upd_ne nl).trans (s2 _ _ hl))), toks_ins h4 (toks_ins h3 (toks_ins hz2 (toks_mono s2 tp)))⟩
   · rw [T.zl_LINE]; exact upd_same
   · intro y l q; injection q with q1 q2; injection q1 with q3 q4; exact absurd q3 (by decide +kernel)
   · intro d q; injection q with q1 q2; injection q1 with q3 q4; exact absurd q3 (by decide +kernel)
   · intro q; injection q with q1 q2; injection q1 with q3 q4; exact absurd q3 (by decide +kernel)
   · intro y l q; injection q with q1 q2; injection q1 with q3 q4; exact absurd q3 (by decide +kernel)
   · intro d q; injection q with q1 q2; injection q1 with q3 q4; exact absurd q3 (by decide +kernel)
   · intro q; injection q with q1 q2; injection q1 with q3 q4; exact absurd q3 (by decide +kernel)
   · intro y l q; cases q
   · intro d q; cases q
   · intro q; cases q
def sp_Writer_leads (K : PySem.W.Frag) (C CT CM CW : Addr) : Sp := fun vs H Q _ => ∃ (x : Addr) (v : V) (mk : Mrk) (ts : List (Str × Str)) (p q f : Str) (b1 b2 b3 b4 : Bool), vs = [.ref x, v] ∧ Wrt K C CT CM CW H x p q f b1 b2 b3 b4 ts ∧ MrkAt K H mk v ∧ Gd p q f ∧ mk.2 < ts.length ∧ (∀ t ∈ ts, t.2.length ≤ 1) ∧ ∀ l vs H', H l = none → H' l = some (.lst vs) → Leds K H' vs (ledM p q f b1 b2 b3 b4 ts mk) → Same H H' → Q (.ref l) H'
theorem ok_Writer_leads : FnOk P w K mg base CX0 6 f_Writer_leads fd_Writer_leads ["self", "place"] (sp_Writer_leads K C_Dialect C_Turn C_Marker C_Writer) := by
 have G_Marker_mark_behind : FnOk P w K mg base CX0 5 f_Marker_mark_behind fd_Marker_mark_behind ["self", "mark", "sign"] (sp_Marker_mark_behind K C_Dialect C_Turn C_Marker) := ok_Marker_mark_behind T
 have G_once : FnOk P w K mg base CX0 1 f_once fd_once ["text"] sp_once := ok_once T
 refine T.F_Writer_leads.ok sc_Writer_leads (fun vs H Q E h => ?_) (fun cdv A outer s H vs Q E hr h => ?_)
 · obtain ⟨x, v, mk, ts, p, q, f, b1, b2, b3, b4, rfl, _⟩ := h; rfl
 · have hu := hu_of hr
   have hu0 := hr.units0
   obtain ⟨x, v, mk, ts, p, q, f, b1, b2, b3, b4, rfl, hW, hv, g, hn, ht1, k⟩ := h
   obtain ⟨dx, m, l, ys, ex, eM, el, tp⟩ := hW.ok
   obtain ⟨b, s, rfl, hb, hs⟩ := hv
   refine ⟨_, (pss_cons (ps_set (i := 2) sc_Writer_leads.nd rfl (by first | exact Or.inl rfl | exact Or.inr rfl) (pe_call (k := 1) G_once (hr.mono (by decide)) rfl T.g_once T.F_once.kp T.b_once .nil pass0 (pa_cons (pe_op op_add_str (peK_fld K rfl (pv 0) rfl) (pe_ix (ixK_tup K rfl) (pe_ix (ixK_list K rfl) (peK_fld K rfl (pv 0) rfl) (pe_ix (ixK_tup K rfl) (pv 1) pe_int (fun _ _ => rfl)) (fun _ _ => rfl)) pe_int (fun _ _ => rfl))) pa_nil)))
     (pss_cons (ps_setC (i := 3) rfl sc_Writer_leads.nd rfl rfl (show CompScope ["self", "place", "signs", "found"] (defScope s_Writer_leads) ["sign", "place", "self"] 1 [1, 0] _ from ⟨rfl, by decide +kernel, by decide +kernel, by decide +kernel, by decide +kernel, rfl, rfl, by decide +kernel⟩) (pi_str (pv 2)) (fun _ _ _ _ => (pg_name (i := 0) (show (["sign", "place", "self"] : List Str).Nodup by decide +kernel) rfl (by first | exact Or.inl rfl | exact Or.inr rfl))) (fun _ _ _ _ => pif_nil) (fun _ _ _ _ => (pe_tup (pa_cons (pv 0) (pa_cons (pe_meth (k := 5) (peK_fld K rfl (pv 2) rfl) T.cl_Marker T.m_Marker_mark_behind G_Marker_mark_behind (hr.mono (by decide)) T.b_Marker_mark_behind .nil pass0 (pa_cons (pv 1) (pa_cons (pv 0) pa_nil))) pa_nil)))))
     (pss_one (ps_ret (pe_comp rfl (show CompScope ["self", "place", "signs", "found"] (defScope s_Writer_leads) ["lead"] 1 [] _ from ⟨rfl, by decide +kernel, by decide +kernel, by decide +kernel, by decide +kernel, rfl, rfl, by decide +kernel⟩) (piK_list K rfl (pv 3)) (fun _ _ _ _ => (pg_name (i := 0) (show (["lead"] : List Str).Nodup by decide +kernel) rfl (by first | exact Or.inl rfl | exact Or.inr rfl))) (fun _ _ _ _ => (pif_one (pt_cmpR op_notN (pe_ix (ixK_tup K rfl) (pv 0) pe_int (fun _ _ => rfl)) pe_non (nomark _)))) (fun _ _ _ _ => (pv 0))))))), ?_⟩
   have tl := tp.length
   obtain ⟨t, ht⟩ : ∃ t, ts[mk.2]? = some t := ⟨_, List.getElem?_eq_getElem hn⟩
   obtain ⟨y, hy⟩ : ∃ y, ys[mk.2]? = some y := ⟨_, List.getElem?_eq_getElem (by omega)⟩
   obtain ⟨t', ht', a, rfl, ha⟩ := paired_get tp mk.2 y hy
   rw [ht] at ht'; cases ht'
   have hat : atI ys (mk.2 : Int) = some (.ref a) := atI_nat hy
   have hl1 := ht1 t (List.mem_of_getElem? ht)
   have sl := specM_len ((p ++ q) ++ f)
   have a1 := app_len p q
   have a2 := app_len (p ++ q) f
   have hp3 := g.p3; have hq2 := g.q2; have hf2 := g.f2
   have ul : (usM p q f).length ≤ 9 := by
     unfold usM
     have n1 : (Str.ofString "\n").length = 1 := by decide +kernel
     have n2 : (Str.ofString " ").length = 1 := by decide +kernel
     have a3 := app_len (specM ((p ++ q) ++ f)) (Str.ofString "\n")
     have a4 := app_len (specM ((p ++ q) ++ f) ++ Str.ofString "\n") (Str.ofString " ")
     omega
   have a5 := app_len (usM p q f) t.2
   have szb : 1000 ≤ sizeLine := by decide
   have sl2 := specM_len (usM p q f ++ t.2)
   refine ⟨_, rfl, _, _, _, _, _, rfl, ex, T.cl_Writer, T.n_Writer_usual, rfl, _, rfl, _, _, _, _, _, rfl, ex, T.cl_Writer, T.n_Writer_tokens, rfl, _, rfl, _, _, _, _, rfl, rfl, hb, rfl, _, _, _, _, rfl, rfl, SqL.of el, hat, _, _, _, _, rfl, rfl, ha, rfl, _, _, rfl, rfl, (by omega), _, rfl, (by omega), _, rfl, _, rfl, fun D hD => ?_⟩
   have zlen : (specM (usM p q f ++ t.2)).cps.toList.length ≤ 20 := by rw [Array.length_toList]; show (specM (usM p q f ++ t.2)).length ≤ 20; omega
   have hled : ledM p q f b1 b2 b3 b4 ts mk = (specM (usM p q f ++ t.2)).cps.toList.filterMap fun c => (mrkM p q f b1 b2 b3 b4 ts mk c).map fun m' => (c, m') := by unfold ledM; rw [ht]
   rw [hled] at k
   generalize specM (usM p q f ++ t.2) = zs at zlen k ⊢
   refine comp_str (z := zs) (fun i vs τ J => (∃ v, τ = [v, some (.ref b), some (.ref x)]) ∧ Same H J ∧ J D = some (.lst vs) ∧ Fnds K (mrkM p q f b1 b2 b3 b4 ts mk) J vs (zs.cps.toList.take i)) ⟨⟨_, rfl⟩, same_new hD, upd_same, .nil⟩ (fun i vs τ J _ p => p.2.2.1) ?_ ?_
   · rintro i c vs τ J hi ⟨⟨v, rfl⟩, sJ, hJ, fd⟩
     have hil : i < zs.cps.toList.length := (List.getElem?_eq_some_iff.mp hi).1
     have hvl := fd.length
     rw [List.length_take] at hvl
     have eMJ := eM.mono sJ
     obtain ⟨dm, y, l', ys', em, eT, el', tp'⟩ := eMJ.ok
     refine gyes ?_
     refine ⟨_, rfl, _, rfl, _, _, _, _, _, rfl, sJ _ _ ex, T.cl_Writer, T.n_Writer_marker, rfl, _, _, _, rfl, em, rfl, _, rfl, _, rfl, m, .ref b, mk, c, ts, p, q, f, b1, b2, b3, b4, rfl, eMJ, ⟨b, s, rfl, sqt_mono sJ hb, sqt_mono sJ hs⟩, fun v' J2 s2 hv' => ?_⟩
     refine ⟨(by show 2 ≤ sizeLine; decide), fun t2 ht2 => ?_⟩
     have st := same_new (o := HO.tup [.str (sg c), v']) ht2
     have hJ3 := st _ _ (s2 _ _ hJ)
     refine ⟨hJ3, Nat.lt_of_le_of_lt (show vs.length ≤ 100 by omega) (by decide), ⟨_, rfl⟩, same_set hD (sJ.trans (s2.trans st)), upd_same, ?_⟩
     rw [take_snocG hi]
     exact paired_app (Fnds.but hJ3 (Fnds.mono (s2.trans st) fd)) (Fnds.but hJ3 (.cons ⟨t2, v', rfl, upd_same, mrkV.mono st hv'⟩ .nil))
   rintro vs τ J ⟨⟨v, rfl⟩, sJ, hJ, fd⟩
   rw [List.take_of_length_le (Nat.le_refl _)] at fd
   have hvl := fd.length
   dsimp only [gName]
   refine ⟨_, rfl, D, rfl, ⟨_, SqL.of hJ⟩, fun L hL => ?_⟩
   refine comp_list (K := K) (a := D) (xs := vs) (fun i us τ G => (∃ v, τ = [v]) ∧ Same J G ∧ G L = some (.lst us) ∧ us.length ≤ i ∧ Leds K G us ((zs.cps.toList.take i).filterMap fun c => (mrkM p q f b1 b2 b3 b4 ts mk c).map fun m' => (c, m'))) ⟨⟨_, rfl⟩, same_new hL, upd_same, Nat.le_refl _, .nil⟩ (fun i us τ G _ p => ⟨SqL.of (p.2.1 _ _ hJ), p.2.2.1⟩) ?_ ?_
   · rintro i e us τ G hi ⟨⟨v, rfl⟩, sG, hG, hul, ld⟩
     have hil : i < vs.length := (List.getElem?_eq_some_iff.mp hi).1
     obtain ⟨c, hc, t2, w2, rfl, h2, hm⟩ := paired_get fd i e hi
     have h2G := sG _ _ h2
     have hmG := mrkV.mono sG hm
     rw [take_snocG hc, List.filterMap_append]
     cases hM : mrkM p q f b1 b2 b3 b4 ts mk c with
     | none =>
       rw [hM] at hmG
       have hmG : w2 = .non := hmG
       subst hmG
       refine ⟨_, rfl, t2, _, _, _, rfl, rfl, SqT.of h2G, rfl, rfl, _, rfl, rdN rfl ⟨⟨_, rfl⟩, sG, hG, by omega, ?_⟩⟩
       rw [List.filterMap_cons, hM]
       simpa using ld
     | some m' =>
       rw [hM] at hmG
       obtain ⟨b3, s3, rfl, q1, q2⟩ := (show MrkAt K G m' w2 from hmG)
       refine ⟨_, rfl, t2, _, _, _, rfl, rfl, SqT.of h2G, rfl, rfl, _, rfl, rdNn (fun z => nomatch z) ⟨_, rfl, hG, Nat.lt_of_le_of_lt (show us.length ≤ 100 by omega) (by decide), ⟨_, rfl⟩, same_set hL sG, upd_same, by rw [List.length_append]; show us.length + 1 ≤ _; omega, ?_⟩⟩
       rw [List.filterMap_cons, hM]
       exact paired_app (Leds.but hG ld) (Leds.but hG (.cons ⟨t2, _, rfl, h2G, ⟨b3, s3, rfl, q1, q2⟩⟩ .nil))
   · rintro us τ G ⟨⟨v, rfl⟩, sG, hG, hul, ld⟩
     rw [hvl, List.take_of_length_le (Nat.le_refl _)] at ld
     exact k L us G (sJ.free hL) hG ld (sJ.trans sG)
def sp_Writer_is_good (K : PySem.W.Frag) (C CT CM CW : Addr) : Sp := fun vs H Q _ => ∃ (x : Addr) (v : V) (mk : Mrk) (ts : List (Str × Str)) (p q f : Str) (b1 b2 b3 b4 : Bool), vs = [.ref x, v] ∧ Wrt K C CT CM CW H x p q f b1 b2 b3 b4 ts ∧ MrkAt K H mk v ∧ ∀ H', Same H H' → Q (.bl (decide (mk = ((Str.ofString "row", Str.ofString ""), ts.length)))) H'
theorem ok_Writer_is_good : FnOk P w K mg base CX0 2 f_Writer_is_good fd_Writer_is_good ["self", "place"] (sp_Writer_is_good K C_Dialect C_Turn C_Marker C_Writer) := by
 have G_Marker_has_read_all : FnOk P w K mg base CX0 1 f_Marker_has_read_all fd_Marker_has_read_all ["self", "mark"] (sp_Marker_has_read_all K C_Dialect C_Turn C_Marker) := ok_Marker_has_read_all T
 refine T.F_Writer_is_good.ok sc_Writer_is_good (fun vs H Q E h => ?_) (fun cdv A outer s H vs Q E hr h => ?_)
 · obtain ⟨x, v, mk, ts, p, q, f, b1, b2, b3, b4, rfl, _⟩ := h; rfl
 · have hu := hu_of hr
   have hu0 := hr.units0
   obtain ⟨x, v, mk, ts, p, q, f, b1, b2, b3, b4, rfl, hW, hv, k⟩ := h
   obtain ⟨dx, m, l, ys, ex, eM, el, tp⟩ := hW.ok
   obtain ⟨dm, y, l', ys', em, eT, el', tp'⟩ := eM.ok
   refine ⟨_, (pss_one (ps_ret (pe_meth (k := 1) (peK_fld K rfl (pv 0) rfl) T.cl_Marker T.m_Marker_has_read_all G_Marker_has_read_all (hr.mono (by decide)) T.b_Marker_has_read_all .nil pass0 (pa_cons (pv 1) pa_nil)))), ?_⟩
   exact ⟨_, rfl, _, _, _, _, _, rfl, ex, T.cl_Writer, T.n_Writer_marker, rfl, _, _, _, rfl, em, rfl, _, rfl, m, v, mk, ts, p, q, f, b1, b2, b3, b4, rfl, eM, hv, k⟩
def sp_search (P : Program) (w : World) (K : PySem.W.Frag) (C CT CM CW : Addr) : Sp := fun vs H Q _ => ∃ (x : Addr) (v : V) (U : List Mrk) (ts : List (Str × Str)) (p q f : Str) (b1 b2 b3 b4 : Bool), vs = [v, .ref x, .non] ∧ Wrt K C CT CM CW H x p q f b1 b2 b3 b4 ts ∧ Gd p q f ∧ MrkAt K H m0 v ∧ (∀ t ∈ ts, t.2.length ≤ 1) ∧ U.length ≤ 100000 ∧ m0 ∈ U ∧ (∀ m ∈ U, m.2 < ts.length → ∀ e ∈ ledM p q f b1 b2 b3 b4 ts m, e.2 ∈ U) ∧ (∀ m ∈ U, m.2 < ts.length ∨ gdM ts m = true) ∧ ∀ t rv r a cm H', H a = none → cm.length ≤ U.length → H' t = some (.tup [rv, .ref a]) → mrkV K r H' rv → CameAt P w K H' a cm → RunC (gdM ts) (ledM p q f b1 b2 b3 b4 ts) [(m0, none)] [m0] r cm → Same H H' → Q (.ref t) H'
theorem ok_search : FnOk P w K mg base CX0 7 f_search fd_search ["first", "searched", "most"] (sp_search P w K C_Dialect C_Turn C_Marker C_Writer) := by
 have G_Writer_is_good : FnOk P w K mg base CX0 2 f_Writer_is_good fd_Writer_is_good ["self", "place"] (sp_Writer_is_good K C_Dialect C_Turn C_Marker C_Writer) := ok_Writer_is_good T
 have G_Writer_leads : FnOk P w K mg base CX0 6 f_Writer_leads fd_Writer_leads ["self", "place"] (sp_Writer_leads K C_Dialect C_Turn C_Marker C_Writer) := ok_Writer_leads T
 refine T.F_search.ok sc_search (fun vs H Q E h => ?_) (fun cdv A outer s H vs Q E hr h => ?_)
 · obtain ⟨x, v, U, ts, p, q, f, b1, b2, b3, b4, rfl, _⟩ := h; rfl
 · have hu := hu_of hr
   have hu0 := hr.units0
   obtain ⟨x, v, U, ts, p, q, f, b1, b2, b3, b4, rfl, hW, g, hv, ht1, hUl, hU0, hU, hUg, k⟩ := h
   have hu64 := hr.units
   obtain ⟨b, s, rfl, hb, hs⟩ := hv
   refine ⟨_, (pss_cons (ps_set (i := 3) sc_search.nd rfl (by first | exact Or.inl rfl | exact Or.inr rfl) (peP_none1 (YM P w K) (ZM_lev P w) rfl rfl rfl (hn1 hu64) (pv 0) pe_non))
     (pss_cons (ps_set (i := 4) sc_search.nd rfl (by first | exact Or.inl rfl | exact Or.inr rfl) (pe_lst (pa_cons (pv 0) pa_nil)))
     (pss_cons (ps_while PassesOwn.never (pt_cmpR (opK_neL K rfl hu0) (pv 4) (pe_lst pa_nil) (nomark _))
     (pss_cons (ps_for PassesOwn.never rfl (piK_list K rfl (pv 4)) (pg_name (i := 5) sc_search.nd rfl (by first | exact Or.inl rfl | exact Or.inr rfl))
     (pss_one (ps_if (pt_val (pe_meth (k := 2) (pv 1) T.cl_Writer T.m_Writer_is_good G_Writer_is_good (hr.mono (by decide)) T.b_Writer_is_good .nil pass0 (pa_cons (pv 5) pa_nil))) (pss_one (ps_ret (pe_tup (pa_cons (pv 5) (pa_cons (pv 3) pa_nil))))) pss_nil)))
     (pss_cons (ps_if (PW.pt (pw_and (pt_cmpR op_notN (pv 2) pe_non (nomark _)) (pw_and1 (pt_cmpR op_gt (pe_callB (callK_len_seq K rfl) rfl T.no_len (by decide +kernel) (pa_cons (pv 3) pa_nil)) (pv 2) (nomark _))))) (pss_one (ps_ret (pe_tup (pa_cons pe_non (pa_cons (pv 3) pa_nil))))) pss_nil)
     (pss_cons (ps_set (i := 6) sc_search.nd rfl (by first | exact Or.inl rfl | exact Or.inr rfl) (pe_lst pa_nil))
     (pss_cons (ps_for PassesOwn.never rfl (piK_list K rfl (pv 4)) (pg_name (i := 5) sc_search.nd rfl (by first | exact Or.inl rfl | exact Or.inr rfl))
     (pss_one (ps_for PassesOwn.never rfl (piK_list K rfl (pe_meth (k := 6) (pv 1) T.cl_Writer T.m_Writer_leads G_Writer_leads (hr.mono (by decide)) T.b_Writer_leads .nil pass0 (pa_cons (pv 5) pa_nil))) (pg_name (i := 7) sc_search.nd rfl (by first | exact Or.inl rfl | exact Or.inr rfl))
     (pss_one (ps_if (pt_cmp (pcP_nnotin (YM P w K) (ZM_lev P w) rfl rfl rfl (hn2 hu64) (pe_ix (ixK_tup K rfl) (pv 7) pe_int (fun _ _ => rfl)) (pv 3))) (pss_cons (psP_nput (YM P w K) (ZM_lev P w) rfl rfl rfl (hn2 hu64) (pv 3) (pe_ix (ixK_tup K rfl) (pv 7) pe_int (fun _ _ => rfl)) (pe_tup (pa_cons (pv 5) (pa_cons (pe_ix (ixK_tup K rfl) (pv 7) pe_int (fun _ _ => rfl)) pa_nil))) rfl)
     (pss_one (ps_expr (peK_bm K rfl PySem.F.plainAttrs_list PySem.F.slot_list_append PySem.F.type_list_append mt_append (pv 6) (pa_cons (pe_ix (ixK_tup K rfl) (pv 7) pe_int (fun _ _ => rfl)) pa_nil))))) pss_nil)))))
     (pss_one (ps_set (i := 4) sc_search.nd rfl (by first | exact Or.inl rfl | exact Or.inr rfl) (pv 6))))))))
     (pss_one (ps_ret (pe_tup (pa_cons pe_non (pa_cons (pv 3) pa_nil)))))))), ?_⟩
   refine fun a ha => ?_
   have sA := same_new (o := dN (ZM P w) (ZM_lev P w) a []) ha
   refine ⟨_, rfl, markK m0, b, rfl, upd_same, mark_at (P := P) (w := w) (m := m0) (sqt_mono sA hb) (sqt_mono sA hs), ?_⟩
   have c1 : CameAt P w K (upd (upd H a (dN (ZM P w) (ZM_lev P w) a [])) a (dN (ZM P w) (ZM_lev P w) a [(markK m0, b, .non)])) a [(m0, none)] := CameAt.one upd_same ⟨b, s, rfl, sqt_mono sA hb, sqt_mono sA hs⟩
   have s1 : Same H (upd (upd H a (dN (ZM P w) (ZM_lev P w) a [])) a (dN (ZM P w) (ZM_lev P w) a [(markK m0, b, .non)])) := same_set ha sA
   generalize upd (upd H a (dN (ZM P w) (ZM_lev P w) a [])) a (dN (ZM P w) (ZM_lev P w) a [(markK m0, b, .non)]) = H1 at c1 s1 ⊢
   refine ⟨_, rfl, (by show 1 ≤ sizeLine; decide), fun l0 hl0 => ?_⟩
   have s2 := same_new (o := HO.lst [.ref b]) hl0
   have g2 := upd_same (H := H1) (a := l0) (o := HO.lst [.ref b])
   generalize upd H1 l0 (.lst [.ref b]) = H2 at s2 g2 ⊢
   have s12 := s1.trans s2
   dsimp only [gName]
   refine ⟨fun n σ J => ∃ l vs edge cm v5 v6 v7, σ = [some (.ref b), some (.ref x), some .non, some (.ref a), some (.ref l), v5, v6, v7] ∧ Same H J ∧ J l = some (.lst vs) ∧ Mrks K J vs edge ∧ CameAt P w K J a cm ∧ InU U cm ∧ (∀ m ∈ edge, m ∈ U) ∧ (∀ r cm', RunC (gdM ts) (ledM p q f b1 b2 b3 b4 ts) cm edge r cm' → RunC (gdM ts) (ledM p q f b1 b2 b3 b4 ts) [(m0, none)] [m0] r cm') ∧ n = 2 * (U.length - cm.length) + (if edge = [] then 0 else 1), ⟨_, l0, _, [m0], _, _, _, _, rfl, s12, g2, .cons ⟨b, s, rfl, sqt_mono s12 hb, sqt_mono s12 hs⟩ .nil, c1.mono s2, ⟨by simp, fun m hm => ?_⟩, fun m hm => ?_, fun r cm' q => q, rfl⟩, ?_⟩
   · rw [List.mem_singleton.mp hm]; exact hU0
   · rw [List.mem_singleton.mp hm]; exact hU0
   rintro n σ J ⟨l, vs, edge, cm, v5, v6, v7, rfl, sJ, hl, em, ca, iu, eU, hR, hn⟩
   refine ⟨_, rfl, (by decide), fun e he => ⟨_, _, _, rfl, rfl, SqL.of (same_new he _ _ hl), SqL.of upd_same, _, rfl, ?_⟩⟩
   have se := same_new (o := HO.lst []) he
   replace sJ := sJ.trans se
   replace hl := se _ _ hl
   replace em := em.keep fun b xs q => sqt_mono se q
   replace ca := ca.mono se
   generalize upd J e (.lst []) = J1 at sJ hl em ca ⊢
   clear se he
   cases em with
   | nil =>
     refine iteF ⟨_, rfl, (by show 2 ≤ sizeLine; decide), fun t ht => ?_⟩
     exact k t .non none a cm _ ha iu.len upd_same rfl (ca.mono (same_new ht)) (hR _ _ .stop) (sJ.trans (same_new ht))
   | @cons v1 e1 vs edge h1 em =>
   have em : Mrks K J1 (v1 :: vs) (e1 :: edge) := .cons h1 em
   have hne : e1 :: edge ≠ [] := fun q => nomatch q
   refine iteT ?_
   generalize e1 :: edge = edge at em hne hn hR eU
   generalize v1 :: vs = vs at em hl
   rw [if_neg hne] at hn
   refine ⟨fun σ G => ∃ l vs v5 v6 v7, σ = [some (.ref b), some (.ref x), some .non, some (.ref a), some (.ref l), v5, v6, v7] ∧ edge.find? (gdM ts) = none ∧ Same H G ∧ G l = some (.lst vs) ∧ Mrks K G vs (expand (ledM p q f b1 b2 b3 b4 ts) cm edge).2 ∧ CameAt P w K G a (expand (ledM p q f b1 b2 b3 b4 ts) cm edge).1 ∧ InU U (expand (ledM p q f b1 b2 b3 b4 ts) cm edge).1 ∧ ∀ m ∈ (expand (ledM p q f b1 b2 b3 b4 ts) cm edge).2, m ∈ U, ?_, ?_⟩
   · rintro σ G ⟨l, vs, v5, v6, v7, rfl, hf, sG, hl, em, ca, iu', eU'⟩
     refine ⟨_, ?_, l, vs, _, _, v5, v6, v7, rfl, sG, hl, em, ca, iu', eU', fun r cm' q => hR r cm' (.go hne hf q), rfl⟩
     have e1 := exp_lens (led := ledM p q f b1 b2 b3 b4 ts) edge (cm, [])
     have e2 := iu'.len
     have e3 := iu.len
     unfold expand at e2 ⊢
     rw [hn]
     simp only [List.length_nil, Nat.add_zero] at e1
     by_cases q : (edge.foldl (expC (ledM p q f b1 b2 b3 b4 ts)) (cm, [])).2 = []
     · rw [if_pos q]; rw [q, List.length_nil] at e1; omega
     · rw [if_neg q]
       have := List.length_pos_iff.mpr q
       omega
   refine ⟨_, rfl, l, rfl, ⟨_, SqL.of hl⟩, ?_⟩
   refine for_list (K := K) (a := l) (xs := vs) (fun i σ G => Same J1 G ∧ (∀ m ∈ edge.take i, gdM ts m = false) ∧ ∃ v5, σ = [some (.ref b), some (.ref x), some .non, some (.ref a), some (.ref l), v5, v6, v7]) ⟨Same.refl _, (fun m hm => nomatch hm), _, rfl⟩ (fun i σ G _ q => SqL.of (q.1 _ _ hl)) ?_ ?_
   · rintro i e2 σ G hi ⟨sG, hno, v5', rfl⟩
     obtain ⟨m, hm, hv⟩ := paired_get em i e2 hi
     have hvG := hv.mono sG
     have hWG := hW.mono (sJ.trans sG)
     obtain ⟨dx, mm, ll, ys, ex, eM, el, tp⟩ := hWG.ok
     obtain ⟨bx, sx, rfl, q1, q2⟩ := id hvG
     dsimp only [gName]
     refine ⟨_, rfl, _, _, _, rfl, ex, rfl, _, rfl, x, .ref bx, m, ts, p, q, f, b1, b2, b3, b4, rfl, hWG, hvG, fun G2 s2 => ⟨_, rfl, ?_⟩⟩
     by_cases hg : gdM ts m = true
     · refine iteBt hg ⟨_, rfl, _, rfl, (by show 2 ≤ sizeLine; decide), fun t ht => ?_⟩
       have st := (sG.trans s2).trans (same_new (o := HO.tup [.ref bx, .ref a]) ht)
       exact k t _ (some m) a cm _ ha iu.len upd_same (hv.mono st) (ca.mono st) (hR _ _ (.found (find_at hm hg hno))) (sJ.trans st)
     · refine iteBf (no_of hg) ⟨sG.trans s2, fun m' hm' => ?_, _, rfl⟩
       rw [take_snocG hm] at hm'
       rcases List.mem_append.mp hm' with z | z
       · exact hno m' z
       · rw [List.mem_singleton.mp z]; exact no_of hg
   rintro σ G ⟨sG, hno, v5', rfl⟩
   rw [em.length, List.take_of_length_le (Nat.le_refl _)] at hno
   have hf := find_no hno
   replace sJ := sJ.trans sG
   replace hl := sG _ _ hl
   replace em := em.keep fun b xs q => sqt_mono sG q
   replace ca := ca.mono sG
   clear sG
   dsimp only [gName]
   refine ⟨_, rfl, rfl, _, rfl, rdN rfl (iteF (⟨(by decide), fun lf hlf => ⟨_, rfl, _, rfl, ⟨_, SqL.of (same_new hlf _ _ hl)⟩, ?_⟩⟩))⟩
   have sf := same_new (o := HO.lst []) hlf
   have hlf2 := upd_same (H := G) (a := lf) (o := HO.lst [])
   have nlf : lf ≠ l := fun q => by rw [q, hl] at hlf; cases hlf
   have flf : H lf = none := sJ.free hlf
   replace sJ := sJ.trans sf
   replace hl := sf _ _ hl
   replace em := em.keep fun b xs q => sqt_mono sf q
   replace ca := ca.mono sf
   generalize upd G lf (.lst []) = G1 at sJ hl em ca hlf2 ⊢
   clear sf hlf
   refine for_list (K := K) (a := l) (xs := vs) (fun i σ J => Same H J ∧ J l = some (.lst vs) ∧ Mrks K J vs edge ∧ ∃ fv v5 v7, σ = [some (.ref b), some (.ref x), some .non, some (.ref a), some (.ref l), v5, some (.ref lf), v7] ∧ J lf = some (.lst fv) ∧ Mrks K J fv ((edge.take i).foldl (expC (ledM p q f b1 b2 b3 b4 ts)) (cm, [])).2 ∧ CameAt P w K J a ((edge.take i).foldl (expC (ledM p q f b1 b2 b3 b4 ts)) (cm, [])).1 ∧ InU U ((edge.take i).foldl (expC (ledM p q f b1 b2 b3 b4 ts)) (cm, [])).1 ∧ ∀ m ∈ ((edge.take i).foldl (expC (ledM p q f b1 b2 b3 b4 ts)) (cm, [])).2, m ∈ U) ⟨sJ, hl, em, [], _, _, rfl, hlf2, .nil, ca, iu, fun m hm => nomatch hm⟩ (fun i σ J _ q => SqL.of q.2.1) ?_ ?_
   · rintro i e2 σ J hi ⟨sJ', hl', em', fv, v5', v7', rfl, hfv, mf, ca', iu', fU⟩
     obtain ⟨m, hm, hv⟩ := paired_get em' i e2 hi
     have hmU := eU m (List.mem_of_getElem? hm)
     have hmt : m.2 < ts.length := by
       rcases hUg m hmU with z | z
       · exact z
       · rw [hno m (List.mem_of_getElem? hm)] at z; cases z
     have hledU := hU m hmU hmt
     have ef : (edge.take (i + 1)).foldl (expC (ledM p q f b1 b2 b3 b4 ts)) (cm, []) = (ledM p q f b1 b2 b3 b4 ts m).foldl (visC m) ((edge.take i).foldl (expC (ledM p q f b1 b2 b3 b4 ts)) (cm, [])) := by rw [take_snocG hm, List.foldl_append]; rfl
     rw [ef]
     have hal : ((edge.take i).foldl (expC (ledM p q f b1 b2 b3 b4 ts)) (cm, [])).2.length ≤ ((edge.take i).foldl (expC (ledM p q f b1 b2 b3 b4 ts)) (cm, [])).1.length := by
       have q := exp_lens (led := ledM p q f b1 b2 b3 b4 ts) (edge.take i) (cm, [])
       simp only [List.length_nil, Nat.add_zero] at q
       omega
     generalize (edge.take i).foldl (expC (ledM p q f b1 b2 b3 b4 ts)) (cm, []) = acc at mf ca' iu' fU hal ⊢
     have hWG := hW.mono sJ'
     obtain ⟨dx, mm, ll0, ys, ex, eM, el, tp⟩ := hWG.ok
     obtain ⟨bx, sx, rfl, q1, q2⟩ := id hv
     dsimp only [gName]
     refine ⟨_, rfl, _, _, _, rfl, ex, rfl, _, rfl, x, .ref bx, m, ts, p, q, f, b1, b2, b3, b4, rfl, hWG, hv, g, hmt, ht1, fun ll us J2 hll0 hll ld s2 => ?_⟩
     have nll : ll ≠ lf := fun q => by rw [q, hfv] at hll0; cases hll0
     have ca2 := ca'.mono s2
     refine ⟨ll, rfl, ⟨_, SqL.of hll⟩, ?_⟩
     generalize hes : ledM p q f b1 b2 b3 b4 ts m = es at ld hledU ⊢
     refine for_list (K := K) (a := ll) (xs := us) (fun j σ G => Same H G ∧ G ll = some (.lst us) ∧ Leds K G us es ∧ G l = some (.lst vs) ∧ Mrks K G vs edge ∧ MrkAt K G m (.ref bx) ∧ ∃ fv v7, σ = [some (.ref b), some (.ref x), some .non, some (.ref a), some (.ref l), some (.ref bx), some (.ref lf), v7] ∧ G lf = some (.lst fv) ∧ Mrks K G fv ((es.take j).foldl (visC m) acc).2 ∧ CameAt P w K G a ((es.take j).foldl (visC m) acc).1 ∧ InU U ((es.take j).foldl (visC m) acc).1 ∧ ∀ m' ∈ ((es.take j).foldl (visC m) acc).2, m' ∈ U) ⟨sJ'.trans s2, hll, ld, s2 _ _ hl', em'.keep (fun b xs q => sqt_mono s2 q), hv.mono s2, fv, _, rfl, s2 _ _ hfv, mf.keep (fun b xs q => sqt_mono s2 q), ca2, iu', fU⟩ (fun j σ G _ q => SqL.of q.2.1) ?_ ?_
     · rintro j e3 σ G hj ⟨sG, hllG, ldG, hlG, emG, hvG, fv, v7', rfl, hfG, mfG, caG, iuG, fUG⟩
       obtain ⟨⟨c, m'⟩, hcm, t3, w3, rfl, h3, hm3⟩ := paired_get ldG j e3 hj
       have hm'U := hledU _ (List.mem_of_getElem? hcm)
       have ev : (es.take (j + 1)).foldl (visC m) acc = visC m ((es.take j).foldl (visC m) acc) (c, m') := by rw [take_snocG hcm, List.foldl_append]; rfl
       rw [ev]
       have hal2 : ((es.take j).foldl (visC m) acc).2.length ≤ ((es.take j).foldl (visC m) acc).1.length := by
         have q := vis_lens (p := m) (es.take j) acc
         omega
       generalize (es.take j).foldl (visC m) acc = ac at mfG caG iuG fUG hal2 ⊢
       have iu1 := visC_in (p := m) (e := (c, m')) iuG hm'U
       have hlen := iuG.len
       obtain ⟨kvs, d, cr⟩ := caG.ok
       have kl := crel_len cr
       obtain ⟨b3, s3, rfl, z1, z2⟩ := id hm3
       have ka : KAt (YM P w K) G (markK m') b3 := mark_at z1 z2
       dsimp only [gName]
       refine ⟨_, rfl, t3, _, _, _, rfl, rfl, SqT.of h3, rfl, _, rfl, a, kvs, markK m', b3, rfl, rfl, d, ka, _, rfl, ?_⟩
       rw [crel_val cr]
       cases hh : hasC ac.1 m' with
       | true =>
         have e4 : visC m ac (c, m') = ac := if_pos hh
         rw [e4]
         exact iteF ⟨sG, hllG, ldG, hlG, emG, hvG, fv, _, rfl, hfG, mfG, caG, iuG, fUG⟩
       | false =>
         have e4 : visC m ac (c, m') = (ac.1 ++ [(m', some (m, c))], ac.2 ++ [m']) := if_neg (by rw [hh]; decide)
         rw [e4] at iu1 ⊢
         refine iteT ?_
         refine ⟨_, rfl, _, rfl, t3, _, _, _, rfl, rfl, SqT.of h3, rfl, (by show 2 ≤ sizeLine; decide), fun t4 ht4 => ?_⟩
         have s4 := same_new (o := HO.tup [.ref bx, .str (sg c)]) ht4
         have g4 := upd_same (H := G) (a := t4) (o := HO.tup [.ref bx, .str (sg c)])
         generalize upd G t4 (.tup [.ref bx, .str (sg c)]) = G4 at s4 g4 ⊢
         have d4 := d.mono s4
         have cr4 := cr.keep fun b xs q => sqt_mono s4 q
         have hm4 := hm3.mono s4
         have lk4 : linkV K (some (m, c)) G4 (.ref t4) := ⟨t4, .ref bx, rfl, SqT.of g4, hvG.mono s4⟩
         have c5 := CameAt.put d4 cr4 hm4 hh lk4
         have hkl : kvs.length < sizeLine := Nat.lt_of_le_of_lt (show kvs.length ≤ 100000 by omega) (by decide)
         refine ⟨_, rfl, _, rfl, t3, _, _, _, rfl, rfl, SqT.of (s4 _ _ h3), rfl, a, kvs, markK m', b3, rfl, rfl, d4, KAt.mono s4 ka, hkl, ?_⟩
         have tq := dN_tup (F := K) d4.ob (o := dN (ZM P w) (ZM_lev P w) a (putN kvs (markK m') b3 (.ref t4)))
         have t1 : ∀ b' xs, G4 b' = some (.tup xs) → (upd G4 a (dN (ZM P w) (ZM_lev P w) a (putN kvs (markK m') b3 (.ref t4)))) b' = some (.tup xs) := fun b' xs e => (upd_ne (ne_of e d4.ob (fun q => nomatch q))).trans e
         have tl : ∀ b' xs, G4 b' = some (.lst xs) → (upd G4 a (dN (ZM P w) (ZM_lev P w) a (putN kvs (markK m') b3 (.ref t4)))) b' = some (.lst xs) := fun b' xs e => (upd_ne (ne_of e d4.ob (fun q => nomatch q))).trans e
         have s5 : Same H (upd G4 a (dN (ZM P w) (ZM_lev P w) a (putN kvs (markK m') b3 (.ref t4)))) := same_set ha (sG.trans s4)
         have ll5 := tl _ _ (s4 _ _ hllG)
         have l5 := tl _ _ (s4 _ _ hlG)
         have lf5 := tl _ _ (s4 _ _ hfG)
         have ld5 := (ldG.mono s4).keep t1 tq
         have em5 := (emG.keep fun b xs q => sqt_mono s4 q).keep tq
         have mf5 := (mfG.keep fun b xs q => sqt_mono s4 q).keep tq
         have hv5 := (hvG.mono s4).keep tq
         have hm5 := hm4.keep tq
         have h35 := t1 _ _ (s4 _ _ h3)
         generalize upd G4 a (dN (ZM P w) (ZM_lev P w) a (putN kvs (markK m') b3 (.ref t4))) = G5 at c5 s5 ll5 l5 lf5 ld5 em5 mf5 hv5 hm5 h35 ⊢
         have fvl := mf5.length
         refine ⟨_, rfl, .inl ⟨rfl, _, SqL.of lf5⟩, _, rfl, t3, _, _, _, rfl, rfl, SqT.of h35, rfl, lf, _, _, rfl, rfl, lf5, ?_, ?_⟩
         · exact Nat.lt_of_le_of_lt (show fv.length ≤ 200000 by rw [fvl]; omega) (by decide)
         refine ⟨same_set flf s5, (upd_ne nll).trans ll5, ld5.but lf5, (upd_ne (Ne.symm nlf)).trans l5, em5.keep (fun b xs q => sqt_but lf5 q), hv5.but lf5, fv ++ [.ref b3], _, rfl, upd_same, paired_app (mf5.keep fun b xs q => sqt_but lf5 q) (.cons (hm5.but lf5) .nil), c5.but lf5, iu1, fun m1 hm1 => ?_⟩
         rcases List.mem_append.mp hm1 with z | z
         · exact fUG m1 z
         · rw [List.mem_singleton.mp z]; exact hm'U
     · rintro σ G ⟨sG, hllG, ldG, hlG, emG, hvG, fv, v7', rfl, hfG, mfG, caG, iuG, fUG⟩
       rw [ld.length, List.take_of_length_le (Nat.le_refl _)] at mfG caG iuG fUG
       exact ⟨sG, hlG, emG, fv, _, _, rfl, hfG, mfG, caG, iuG, fUG⟩
   · rintro σ J ⟨sJ', hl', em', fv, v5', v7', rfl, hfv, mf, ca', iu', fU⟩
     rw [em.length, List.take_of_length_le (Nat.le_refl _)] at mf ca' iu' fU
     exact ⟨_, rfl, lf, fv, _, _, _, rfl, hf, sJ', hfv, mf, ca', iu', fU⟩
def sp_text_to (P : Program) (w : World) (K : PySem.W.Frag) : Sp := fun vs H Q _ => ∃ (a : Addr) (v : V) (cm : Cm) (m : Mrk) (x : Option (Mrk × Nat)) (xs : List Nat), vs = [.ref a, v] ∧ CameAt P w K H a cm ∧ MrkAt K H m v ∧ valC cm m = some x ∧ LinkC cm x xs ∧ xs.length ≤ 100000 ∧ ∀ H', Same H H' → Q (.str (Txt.join (Str.ofString "") (xs.map sg).reverse)) H'
theorem ok_text_to : FnOk P w K mg base CX0 1 f_text_to fd_text_to ["came", "place"] (sp_text_to P w K) := by
 refine T.F_text_to.ok sc_text_to (fun vs H Q E h => ?_) (fun cdv A outer s H vs Q E hr h => ?_)
 · obtain ⟨a, v, cm, m, x, xs, rfl, _⟩ := h; rfl
 · have hu := hu_of hr
   have hu0 := hr.units0
   obtain ⟨a, v, cm, m, x, xs, rfl, hC, hm, hx, hp, hxl, k⟩ := h
   have hu64 := hr.units
   obtain ⟨b, s, rfl, hb, hs⟩ := hm
   refine ⟨_, (pss_cons (ps_set (i := 2) sc_text_to.nd rfl (by first | exact Or.inl rfl | exact Or.inr rfl) (pe_lst pa_nil))
     (pss_cons (ps_set (i := 3) sc_text_to.nd rfl (by first | exact Or.inl rfl | exact Or.inr rfl) (peP_nget (YM P w K) (ZM_lev P w) rfl rfl rfl (hn2 hu64) (pv 0) (pv 1) (fun _ _ => rfl)))
     (pss_cons (ps_while PassesOwn.never (pt_cmpR op_notN (pv 3) pe_non (nomark _))
     (pss_cons (ps_expr (peK_bm K rfl PySem.F.plainAttrs_list PySem.F.slot_list_append PySem.F.type_list_append mt_append (pv 2) (pa_cons (pe_ix (ixK_tup K rfl) (pv 3) pe_int (fun _ _ => rfl)) pa_nil)))
     (pss_one (ps_set (i := 3) sc_text_to.nd rfl (by first | exact Or.inl rfl | exact Or.inr rfl) (peP_nget (YM P w K) (ZM_lev P w) rfl rfl rfl (hn2 hu64) (pv 0) (pe_ix (ixK_tup K rfl) (pv 3) pe_int (fun _ _ => rfl)) (fun _ _ => rfl))))))
     (pss_one (ps_ret (peK_joinrev K rfl rfl rfl T.no_reversed pe_str (pa_cons (pv 2) pa_nil))))))), ?_⟩
   refine ⟨(by decide), fun l hl => ⟨_, rfl, _, rfl, ?_⟩⟩
   have s1 := same_new (o := HO.lst []) hl
   have hl1 := upd_same (H := H) (a := l) (o := HO.lst [])
   generalize upd H l (.lst []) = H1 at s1 hl1 ⊢
   obtain ⟨kvs, d, cr⟩ := (hC.mono s1).ok
   obtain ⟨v, hv, lv⟩ := crel_get cr hx
   refine ⟨a, kvs, markK m, b, v, rfl, rfl, d, mark_at (sqt_mono s1 hb) (sqt_mono s1 hs), hv, ?_⟩
   dsimp only [gName]
   refine ⟨fun n σ J => ∃ done rest x v, σ = [some (.ref a), some (.ref b), some (.ref l), some v] ∧ Same H J ∧ J l = some (.lst ((done.map sg).map V.str)) ∧ linkV K x J v ∧ LinkC cm x rest ∧ xs = done ++ rest ∧ n = rest.length, ⟨_, [], xs, x, v, rfl, s1, hl1, lv, hp, rfl, rfl⟩, ?_⟩
   rintro n σ J ⟨done, rest, x, v, rfl, sJ, hlJ, lv, hp, hxs, hn⟩
   cases hp with
   | nil =>
     have lv : v = .non := lv
     subst lv
     rw [List.append_nil] at hxs
     subst hxs
     refine ⟨_, rfl, rfl, _, rfl, iteBf rfl ?_⟩
     refine ⟨_, rfl, _, rfl, l, xs.map sg, rfl, SqL.of hlJ, ?_, k J sJ⟩
     rw [sgs_sum, List.length_map]
     show xs.length + xs.length * 0 ≤ _
     omega
   | @cons m1 c1 x1 r1 hx1 hp1 =>
     obtain ⟨t, w1, rfl, ht, hw⟩ := lv
     refine ⟨_, rfl, rfl, _, rfl, iteBt rfl ?_⟩
     refine ⟨fun σ J => ∃ v, σ = [some (.ref a), some (.ref b), some (.ref l), some v] ∧ Same H J ∧ J l = some (.lst (((done ++ [c1]).map sg).map V.str)) ∧ linkV K x1 J v, ?_, ?_⟩
     · rintro σ J' ⟨v, rfl, sJ', hl', lv'⟩
       exact ⟨_, by rw [hn]; exact Nat.lt_succ_self _, _, _, _, _, rfl, sJ', hl', lv', hp1, by rw [hxs, List.append_assoc]; rfl, rfl⟩
     have hdl : done.length ≤ 100000 := by rw [hxs, List.length_append] at hxl; omega
     refine ⟨_, rfl, .inl ⟨rfl, _, SqL.of hlJ⟩, _, rfl, t, _, _, _, rfl, rfl, ht, rfl, l, _, _, rfl, rfl, hlJ, ?_, ?_⟩
     · exact Nat.lt_of_le_of_lt (show ((done.map sg).map V.str).length ≤ 100000 by rw [List.length_map, List.length_map]; exact hdl) (by decide)
     have ht2 := sqt_but (o := HO.lst ((done.map sg).map V.str ++ [.str (sg c1)])) hlJ ht
     obtain ⟨kvs, d, cr⟩ := ((hC.mono sJ).but (o := HO.lst ((done.map sg).map V.str ++ [.str (sg c1)])) hlJ).ok
     obtain ⟨v, hv, lv⟩ := crel_get cr hx1
     obtain ⟨b1, s1, rfl, q1, q2⟩ := hw.keep (fun b xs q => sqt_but (o := HO.lst ((done.map sg).map V.str ++ [.str (sg c1)])) hlJ q)
     refine ⟨_, rfl, _, rfl, t, _, _, _, rfl, rfl, ht2, rfl, a, kvs, markK m1, b1, v, rfl, rfl, d, mark_at q1 q2, hv, ?_⟩
     exact ⟨v, rfl, same_set hl sJ, by rw [List.map_append, List.map_append]; exact upd_same, lv⟩
def sp_is_cell : Sp := fun vs H Q _ => ∃ z : Str, vs = [.str z] ∧ cellOk z ∧ z.length ≤ 400 ∧ ∀ H', Same H H' → Q (.bl true) H'
theorem ok_is_cell : FnOk P w K mg base CX0 3 f_is_cell fd_is_cell ["thing"] sp_is_cell := by
 have G_has_signs_alone : FnOk P w K mg base CX0 2 f_has_signs_alone fd_has_signs_alone ["text"] sp_has_signs_alone := ok_has_signs_alone T
 refine T.F_is_cell.ok sc_is_cell (fun vs H Q E h => ?_) (fun cdv A outer s H vs Q E hr h => ?_)
 · obtain ⟨z, rfl, _⟩ := h; rfl
 · have hu := hu_of hr
   have hu0 := hr.units0
   obtain ⟨z, rfl, g, hz, k⟩ := h
   refine ⟨_, (pss_cons (ps_if (PW.pt (pw_or (pt_not (pt_val (pe_callB (callK_isinst K rfl) rfl T.no_isinstance (by decide +kernel) (pa_cons (pv 0) (pa_cons (pe_bty "str" rfl T.no_str (by decide +kernel)) pa_nil))))) (pw_or1 (pt_cmpR op_gt (pe_callB call_len_str rfl T.no_len (by decide +kernel) (pa_cons (pv 0) pa_nil)) (pe_gint rfl T.gl_MOST_SIGNS_IN_CELLS.choose_spec) (nomark _))))) (pss_one (ps_ret pe_bl)) pss_nil)
     (pss_one (ps_ret (pe_call (k := 2) G_has_signs_alone (hr.mono (by decide)) rfl T.g_has_signs_alone T.F_has_signs_alone.kp T.b_has_signs_alone .nil pass0 (pa_cons (pv 0) pa_nil))))), ?_⟩
   refine ⟨_, rfl, _, _, _, true, rfl, .str _, .inl ⟨_, rfl, rfl⟩, true, rfl, iteF ?_⟩
   refine ⟨_, rfl, z, rfl, Nat.le_trans hz (by decide), _, _, rfl, rfl, _, rfl, iteDn (by omega) ?_⟩
   exact ⟨_, rfl, z, rfl, g, by omega, k⟩
def sp_is_row (K : PySem.W.Frag) : Sp := fun vs H Q _ => ∃ (a : Addr) (r : List Str), vs = [.ref a] ∧ H a = some (.lst (r.map V.str)) ∧ (∀ c ∈ r, cellOk c) ∧ (lens r).sum ≤ 400 ∧ r.length ≤ 1000 ∧ ∀ H', Same H H' → Q (.bl (rowB r)) H'
theorem ok_is_row : FnOk P w K mg base CX0 4 f_is_row fd_is_row ["thing"] (sp_is_row K) := by
 have G_is_cell : FnOk P w K mg base CX0 3 f_is_cell fd_is_cell ["thing"] sp_is_cell := ok_is_cell T
 refine T.F_is_row.ok sc_is_row (fun vs H Q E h => ?_) (fun cdv A outer s H vs Q E hr h => ?_)
 · obtain ⟨a, r, rfl, _⟩ := h; rfl
 · have hu := hu_of hr
   have hu0 := hr.units0
   obtain ⟨a, r, rfl, ha, g, hs, hrl, k⟩ := h
   have hml : (r.map V.str).length = r.length := List.length_map ..
   refine ⟨_, (pss_cons (ps_if (PW.pt (pw_or (pt_not (pt_val (pe_callB (callK_isseq K rfl) rfl T.no_isinstance (by decide +kernel) (pa_cons (pv 0) (pa_cons (pe_bty "list" rfl T.no_list (by decide +kernel)) pa_nil))))) (pw_or (pt_cmpR op_lt (pe_callB (callK_len_seq K rfl) rfl T.no_len (by decide +kernel) (pa_cons (pv 0) pa_nil)) pe_int (nomark _)) (pw_or1 (pt_cmpR op_gt (pe_callB (callK_len_seq K rfl) rfl T.no_len (by decide +kernel) (pa_cons (pv 0) pa_nil)) (pe_gint rfl T.gl_MOST_CELLS.choose_spec) (nomark _)))))) (pss_one (ps_ret pe_bl)) pss_nil)
     (pss_one (ps_ret (pe_callB (callK_all K rfl rfl) rfl T.no_all (by decide +kernel) (pa_cons (pe_comp rfl (show CompScope ["thing"] (defScope s_is_row) ["cell"] 1 [] _ from ⟨rfl, by decide +kernel, by decide +kernel, by decide +kernel, by decide +kernel, rfl, rfl, by decide +kernel⟩) (piK_list K rfl (pv 0)) (fun _ _ _ _ => (pg_name (i := 0) (show (["cell"] : List Str).Nodup by decide +kernel) rfl (by first | exact Or.inl rfl | exact Or.inr rfl))) (fun _ _ _ _ => pif_nil) (fun _ _ _ _ => (pe_call (k := 3) G_is_cell (hr.mono (by decide)) rfl T.g_is_cell T.F_is_cell.kp T.b_is_cell .nil pass0 (pa_cons (pv 0) pa_nil)))) pa_nil))))), ?_⟩
   refine ⟨_, rfl, a, _, _, true, rfl, .inr ⟨SqL.of ha, rfl⟩, true, rfl, iteF ?_⟩
   refine ⟨_, rfl, a, _, rfl, .inl (SqL.of ha), _, _, rfl, rfl, _, rfl, rd2 (fun h1 => ?_) (fun h1 => ?_)⟩
   · rw [rowB_f (by omega)] at k
     exact iteT (k H (Same.refl _))
   refine ⟨_, rfl, a, _, rfl, .inl (SqL.of ha), _, _, rfl, rfl, _, rfl, rd2 (fun h2 => ?_) (fun h2 => ?_)⟩
   · rw [rowB_f (by omega)] at k
     exact k H (Same.refl _)
   rw [rowB_t (by omega) (by omega)] at k
   refine ⟨_, rfl, a, rfl, ⟨_, SqL.of ha⟩, fun D hD => ?_⟩
   refine comp_list (K := K) (a := a) (xs := r.map V.str) (fun i ys τ H2 => (∃ v, τ = [v]) ∧ Same H H2 ∧ H2 D = some (.lst ys) ∧ ys = (List.replicate i true).map V.bl) ⟨⟨_, rfl⟩, same_new hD, upd_same, rfl⟩ (fun i ys τ H2 _ p => ⟨SqL.of (p.2.1 _ _ ha), p.2.2.1⟩) ?_ ?_
   · rintro i e ys τ H2 hi ⟨⟨v, rfl⟩, s2, hl, rfl⟩
     have hil : i < (r.map V.str).length := (List.getElem?_eq_some_iff.mp hi).1
     obtain ⟨z, hz, rfl⟩ : ∃ z ∈ r, e = V.str z := by
       obtain ⟨z, hz, e2⟩ := List.mem_map.mp (List.mem_of_getElem? hi)
       exact ⟨z, hz, e2.symm⟩
     refine gyes ?_
     refine ⟨_, rfl, z, rfl, g z hz, Nat.le_trans (cell_len hz) hs, fun H3 s3 => ⟨s3 _ _ hl, ?_, ⟨_, rfl⟩, same_set hD (s2.trans s3), upd_same, ?_⟩⟩
     · rw [List.length_map, List.length_replicate]
       exact Nat.lt_of_lt_of_le (show i < 1001 by (rw [List.length_map] at hil; omega)) (by decide)
     · rw [List.replicate_succ', List.map_append]; rfl
   · rintro ys τ H2 ⟨⟨v, rfl⟩, s2, hl, rfl⟩
     refine ⟨D, List.replicate _ true, rfl, SqL.of hl, ?_⟩
     have e : (List.replicate (r.map V.str).length true).all id = true := by
       rw [List.all_eq_true]
       intro b hb
       exact (List.mem_replicate.mp hb).2
     rw [e]
     exact k H2 s2
def sp_signs_in_row (K : PySem.W.Frag) : Sp := fun vs H Q _ => ∃ (a : Addr) (r : List Str), vs = [.ref a] ∧ H a = some (.lst (r.map V.str)) ∧ r.length ≤ 20 ∧ (lens r).sum ≤ 400 ∧ ∀ H', Same H H' → Q (.int ((lens r).sum : Nat)) H'
theorem ok_signs_in_row : FnOk P w K mg base CX0 1 f_signs_in_row fd_signs_in_row ["row"] (sp_signs_in_row K) := by
 refine T.F_signs_in_row.ok sc_signs_in_row (fun vs H Q E h => ?_) (fun cdv A outer s H vs Q E hr h => ?_)
 · obtain ⟨a, r, rfl, _⟩ := h; rfl
 · have hu := hu_of hr
   have hu0 := hr.units0
   obtain ⟨a, r, rfl, ha, hr, hs, k⟩ := h
   refine ⟨_, (pss_one (ps_ret (pe_callB (callK_sum K rfl rfl) rfl T.no_sum (by decide +kernel) (pa_cons (pe_comp rfl (show CompScope ["row"] (defScope s_signs_in_row) ["cell"] 1 [] _ from ⟨rfl, by decide +kernel, by decide +kernel, by decide +kernel, by decide +kernel, rfl, rfl, by decide +kernel⟩) (piK_list K rfl (pv 0)) (fun _ _ _ _ => (pg_name (i := 0) (show (["cell"] : List Str).Nodup by decide +kernel) rfl (by first | exact Or.inl rfl | exact Or.inr rfl))) (fun _ _ _ _ => pif_nil) (fun _ _ _ _ => (pe_callB call_len_str rfl T.no_len (by decide +kernel) (pa_cons (pv 0) pa_nil)))) pa_nil)))), ?_⟩
   refine ⟨_, rfl, a, rfl, ⟨_, SqL.of ha⟩, fun D hD => ?_⟩
   refine comp_list (K := K) (a := a) (xs := r.map V.str) (fun i ys τ H2 => (∃ v, τ = [v]) ∧ Same H H2 ∧ H2 D = some (.lst ys) ∧ ys = ((lens r).take i).map fun n : Nat => V.int n) ⟨⟨_, rfl⟩, same_new hD, upd_same, rfl⟩ (fun i ys τ H2 _ p => ⟨SqL.of (p.2.1 _ _ ha), p.2.2.1⟩) ?_ ?_
   · rintro i e ys τ H2 hi ⟨⟨v, rfl⟩, s2, hl, rfl⟩
     rw [List.getElem?_map] at hi
     cases hz : r[i]? with
     | none => rw [hz] at hi; cases hi
     | some z =>
       rw [hz] at hi
       cases hi
       have hzr := List.mem_of_getElem? hz
       have hz4 := Nat.le_trans (cell_len hzr) hs
       refine gyes ?_
       refine ⟨_, rfl, z, rfl, Nat.le_trans hz4 (by decide), hl, ?_, ⟨_, rfl⟩, same_set hD s2, upd_same, ?_⟩
       · rw [List.length_map, List.length_take]
         unfold lens; rw [List.length_map]
         exact Nat.lt_of_le_of_lt (show _ ≤ 20 by omega) (by decide)
       · rw [take_snocG (l := lens r) (c := z.length) (by unfold lens; rw [List.getElem?_map, hz]; rfl), List.map_append]; rfl
   · rintro ys τ H2 ⟨⟨v, rfl⟩, s2, hl, rfl⟩
     refine ⟨D, lens r, rfl, ?_, by omega, k H2 s2⟩
     have e : (lens r).take (r.map V.str).length = lens r := List.take_of_length_le (by unfold lens; rw [List.length_map, List.length_map]; exact Nat.le_refl _)
     rw [e] at hl
     exact SqL.of hl
def sp_is_table (K : PySem.W.Frag) : Sp := fun vs H Q _ => ∃ (a : Addr) (xs : List V) (t : List (List Str)), vs = [.ref a] ∧ H a = some (.lst xs) ∧ Paired (RelRow H) xs t ∧ TabS t ∧ ∀ H', Same H H' → Q (.bl (tabB t)) H'
theorem ok_is_table : FnOk P w K mg base CX0 5 f_is_table fd_is_table ["thing"] (sp_is_table K) := by
 have G_is_row : FnOk P w K mg base CX0 4 f_is_row fd_is_row ["thing"] (sp_is_row K) := ok_is_row T
 have G_signs_in_row : FnOk P w K mg base CX0 1 f_signs_in_row fd_signs_in_row ["row"] (sp_signs_in_row K) := ok_signs_in_row T
 refine T.F_is_table.ok sc_is_table (fun vs H Q E h => ?_) (fun cdv A outer s H vs Q E hr h => ?_)
 · obtain ⟨a, xs, t, rfl, _⟩ := h; rfl
 · have hu := hu_of hr
   have hu0 := hr.units0
   obtain ⟨a, xs, t, rfl, ha, tr, g, k⟩ := h
   have hn := g.n
   have hlx := tr.length
   refine ⟨_, (pss_cons (ps_if (PW.pt (pw_or (pt_not (pt_val (pe_callB (callK_isseq K rfl) rfl T.no_isinstance (by decide +kernel) (pa_cons (pv 0) (pa_cons (pe_bty "list" rfl T.no_list (by decide +kernel)) pa_nil))))) (pw_or1 (pt_cmpR op_gt (pe_callB (callK_len_seq K rfl) rfl T.no_len (by decide +kernel) (pa_cons (pv 0) pa_nil)) (pe_gint rfl T.gl_MOST_ROWS.choose_spec) (nomark _))))) (pss_one (ps_ret pe_bl)) pss_nil)
     (pss_cons (ps_if (pt_not (pt_val (pe_callB (callK_all K rfl rfl) rfl T.no_all (by decide +kernel) (pa_cons (pe_comp rfl (show CompScope ["thing"] (defScope s_is_table) ["row"] 1 [] _ from ⟨rfl, by decide +kernel, by decide +kernel, by decide +kernel, by decide +kernel, rfl, rfl, by decide +kernel⟩) (piK_list K rfl (pv 0)) (fun _ _ _ _ => (pg_name (i := 0) (show (["row"] : List Str).Nodup by decide +kernel) rfl (by first | exact Or.inl rfl | exact Or.inr rfl))) (fun _ _ _ _ => pif_nil) (fun _ _ _ _ => (pe_call (k := 4) G_is_row (hr.mono (by decide)) rfl T.g_is_row T.F_is_row.kp T.b_is_row .nil pass0 (pa_cons (pv 0) pa_nil)))) pa_nil)))) (pss_one (ps_ret pe_bl)) pss_nil)
     (pss_one (ps_ret (pe_cmpR op_le (pe_callB (callK_sum K rfl rfl) rfl T.no_sum (by decide +kernel) (pa_cons (pe_comp rfl (show CompScope ["thing"] (defScope s_is_table) ["row"] 1 [] _ from ⟨rfl, by decide +kernel, by decide +kernel, by decide +kernel, by decide +kernel, rfl, rfl, by decide +kernel⟩) (piK_list K rfl (pv 0)) (fun _ _ _ _ => (pg_name (i := 0) (show (["row"] : List Str).Nodup by decide +kernel) rfl (by first | exact Or.inl rfl | exact Or.inr rfl))) (fun _ _ _ _ => pif_nil) (fun _ _ _ _ => (pe_call (k := 1) G_signs_in_row (hr.mono (by decide)) rfl T.g_signs_in_row T.F_signs_in_row.kp T.b_signs_in_row .nil pass0 (pa_cons (pv 0) pa_nil)))) pa_nil)) (pe_gint rfl T.gl_MOST_SIGNS_IN_CELLS.choose_spec) (nomark _)))))), ?_⟩
   refine ⟨_, rfl, a, _, _, true, rfl, .inr ⟨SqL.of ha, rfl⟩, true, rfl, iteF ?_⟩
   refine ⟨_, rfl, a, _, rfl, .inl (SqL.of ha), _, _, rfl, rfl, _, rfl, rd2 (fun h1 => ?_) (fun h1 => ?_)⟩
   · have e : tabB t = false := by unfold tabB; rw [decide_eq_false (by omega)]; rfl
     rw [e] at k
     exact k H (Same.refl _)
   refine ⟨_, rfl, a, rfl, ⟨_, SqL.of ha⟩, fun D hD => ?_⟩
   refine comp_list (K := K) (a := a) (xs := xs) (fun i ys τ H2 => (∃ v, τ = [v]) ∧ Same H H2 ∧ H2 D = some (.lst ys) ∧ ys = ((t.take i).map rowB).map V.bl) ⟨⟨_, rfl⟩, same_new hD, upd_same, rfl⟩ (fun i ys τ H2 _ p => ⟨SqL.of (p.2.1 _ _ ha), p.2.2.1⟩) ?_ ?_
   · rintro i e ys τ H2 hi ⟨⟨v, rfl⟩, s2, hl, rfl⟩
     have hil : i < xs.length := (List.getElem?_eq_some_iff.mp hi).1
     obtain ⟨r, hr, b, rfl, hb⟩ := paired_get tr i e hi
     have hrt := List.mem_of_getElem? hr
     refine gyes ?_
     refine ⟨_, rfl, b, r, rfl, s2 _ _ hb, g.ok r hrt, Nat.le_trans (row_sum hrt) g.sum, g.rl r hrt, fun H3 s3 => ⟨s3 _ _ hl, ?_, ⟨_, rfl⟩, same_set hD (s2.trans s3), upd_same, ?_⟩⟩
     · rw [List.length_map, List.length_map, List.length_take]
       exact Nat.lt_of_le_of_lt (show _ ≤ 1000 by omega) (by decide)
     · rw [take_snocG hr, List.map_append, List.map_append]; rfl
   · rintro ys τ H2 ⟨⟨v, rfl⟩, s2, hl, rfl⟩
     rw [hlx, List.take_of_length_le (Nat.le_refl _)] at hl
     refine ⟨D, t.map rowB, rfl, SqL.of hl, ?_⟩
     have ea : (t.map rowB).all id = t.all rowB := by rw [List.all_map]; rfl
     rw [ea]
     cases hA : t.all rowB with
     | false =>
       have e : tabB t = false := by unfold tabB; rw [hA, Bool.and_false]
       rw [e] at k
       exact ⟨_, rfl, iteT (k H2 s2)⟩
     | true =>
       have hB : tabB t = true := by unfold tabB; rw [hA, decide_eq_true (by omega)]; rfl
       have gok := tabB_ok g hB
       rw [hB] at k
       refine ⟨true, rfl, iteF ?_⟩
       clear hl
       have ha2 := s2 _ _ ha
       refine ⟨_, rfl, a, rfl, ⟨_, SqL.of ha2⟩, fun E hE => ?_⟩
       refine comp_list (K := K) (a := a) (xs := xs) (fun i ys τ H3 => (∃ v, τ = [v]) ∧ Same H2 H3 ∧ H3 E = some (.lst ys) ∧ ys = ((t.map fun r => (lens r).sum).take i).map fun n : Nat => V.int n) ⟨⟨_, rfl⟩, same_new hE, upd_same, rfl⟩ (fun i ys τ H3 _ p => ⟨SqL.of (p.2.1 _ _ ha2), p.2.2.1⟩) ?_ ?_
       · rintro i e ys τ H3 hi ⟨⟨v, rfl⟩, s3, hl, rfl⟩
         obtain ⟨r, hr, b, rfl, hb⟩ := paired_get tr i e hi
         have hrt := List.mem_of_getElem? hr
         have hil : i < xs.length := (List.getElem?_eq_some_iff.mp hi).1
         refine gyes ?_
         refine ⟨_, rfl, b, r, rfl, s3 _ _ (s2 _ _ hb), (gok.rows r hrt).hi, Nat.le_trans (row_sum hrt) gok.sum, fun H4 s4 => ⟨s4 _ _ hl, ?_, ⟨_, rfl⟩, same_set hE (s3.trans s4), upd_same, ?_⟩⟩
         · rw [List.length_map, List.length_take, List.length_map]
           exact Nat.lt_of_le_of_lt (show _ ≤ 60 by omega) (by decide)
         · rw [take_snocG (l := t.map fun r => (lens r).sum) (c := (lens r).sum) (by rw [List.getElem?_map, hr]; rfl), List.map_append]; rfl
       · rintro ys τ H3 ⟨⟨v, rfl⟩, s3, hl, rfl⟩
         have e : (t.map fun r => (lens r).sum).take xs.length = t.map fun r => (lens r).sum := List.take_of_length_le (by rw [List.length_map, hlx]; exact Nat.le_refl _)
         rw [e] at hl
         have hsum := gok.sum
         refine ⟨E, t.map fun r => (lens r).sum, rfl, SqL.of hl, by unfold total at hsum; omega, _, _, rfl, rfl, ?_⟩
         have e2 : decide ((((t.map fun r => (lens r).sum).sum : Nat) : Int) ≤ 400) = true := decide_eq_true (by unfold total at hsum; omega)
         have q := k H3 (s2.trans s3)
         rw [← e2] at q
         exact q
def sp_check_table (K : PySem.W.Frag) : Sp := fun vs H Q _ => ∃ (a : Addr) (xs : List V) (t : List (List Str)), vs = [.ref a] ∧ H a = some (.lst xs) ∧ Paired (RelRow H) xs t ∧ TabOk t ∧ ∀ H', Same H H' → Q .non H'
theorem ok_check_table : FnOk P w K mg base CX0 6 f_check_table fd_check_table ["thing"] (sp_check_table K) := by
 have G_is_table : FnOk P w K mg base CX0 5 f_is_table fd_is_table ["thing"] (sp_is_table K) := ok_is_table T
 refine T.F_check_table.ok sc_check_table (fun vs H Q E h => ?_) (fun cdv A outer s H vs Q E hr h => ?_)
 · obtain ⟨a, xs, t, rfl, _⟩ := h; rfl
 · have hu := hu_of hr
   have hu0 := hr.units0
   obtain ⟨a, xs, t, rfl, ha, tr, g, k⟩ := h
   refine ⟨_, (pss_one (ps_if (pt_not (pt_val (pe_call (k := 5) G_is_table (hr.mono (by decide)) rfl T.g_is_table T.F_is_table.kp T.b_is_table .nil pass0 (pa_cons (pv 0) pa_nil)))) (pss_one ps_never) pss_nil)), ?_⟩
   exact ⟨_, rfl, a, xs, t, rfl, ha, tr, g.s, fun H1 s1 => ⟨_, rfl, iteNE (ok_tabB g) (k _ s1)⟩⟩
def sp_tokens_of_row (K : PySem.W.Frag) : Sp := fun vs H Q _ => ∃ (a : Addr) (r : List Str), vs = [.ref a] ∧ H a = some (.lst (r.map V.str)) ∧ r.length ≤ 20 ∧ (lens r).sum ≤ 400 ∧ ∀ (l : Addr) (ys : List V) H', H l = none → H' l = some (.lst ys) → Paired (RelT K H') ys (tokRow r) → Same H H' → Q (.ref l) H'
theorem ok_tokens_of_row : FnOk P w K mg base CX0 1 f_tokens_of_row fd_tokens_of_row ["row"] (sp_tokens_of_row K) := by
 refine T.F_tokens_of_row.ok sc_tokens_of_row (fun vs H Q E h => ?_) (fun cdv A outer s H vs Q E hr h => ?_)
 · obtain ⟨a, r, rfl, _⟩ := h; rfl
 · have hu := hu_of hr
   have hu0 := hr.units0
   obtain ⟨a, r, rfl, ha, hr, hs, k⟩ := h
   refine ⟨_, (pss_cons (ps_set (i := 1) sc_tokens_of_row.nd rfl (by first | exact Or.inl rfl | exact Or.inr rfl) (pe_lst pa_nil))
     (pss_cons (ps_for PassesOwn.never rfl (piK_enum K rfl rfl T.no_enumerate (pa_cons (pv 0) pa_nil)) (pgK_tup K rfl 2 rfl (pgs_cons (pg_name (i := 2) sc_tokens_of_row.nd rfl (by first | exact Or.inl rfl | exact Or.inr rfl)) (pgs_cons (pg_name (i := 3) sc_tokens_of_row.nd rfl (by first | exact Or.inl rfl | exact Or.inr rfl)) pgs_nil)))
     (pss_cons (ps_if (pt_cmpR op_gt (pv 2) pe_int (nomark _)) (pss_one (ps_expr (peK_bm K rfl PySem.F.plainAttrs_list PySem.F.slot_list_append PySem.F.type_list_append mt_append (pv 1) (pa_cons (pe_gref rfl T.gl_PART) pa_nil)))) pss_nil)
     (pss_one (ps_expr (peK_bm K rfl PySem.F.plainAttrs_list PySem.F.slot_list_extend PySem.F.type_list_extend mt_extend (pv 1) (pa_cons (pe_comp rfl (show CompScope ["row", "tokens", "place", "cell"] (defScope s_tokens_of_row) ["sign"] 1 [] _ from ⟨rfl, by decide +kernel, by decide +kernel, by decide +kernel, by decide +kernel, rfl, rfl, by decide +kernel⟩) (pi_str (pv 3)) (fun _ _ _ _ => (pg_name (i := 0) (show (["sign"] : List Str).Nodup by decide +kernel) rfl (by first | exact Or.inl rfl | exact Or.inr rfl))) (fun _ _ _ _ => pif_nil) (fun _ _ _ _ => (pe_tup (pa_cons pe_str (pa_cons (pv 0) pa_nil))))) pa_nil))))))
     (pss_cons (ps_expr (peK_bm K rfl PySem.F.plainAttrs_list PySem.F.slot_list_append PySem.F.type_list_append mt_append (pv 1) (pa_cons (pe_gref rfl T.gl_END) pa_nil)))
     (pss_one (ps_ret (pv 1)))))), ?_⟩
   refine ⟨by decide, fun l hl => ?_⟩
   have s0 := same_new (o := HO.lst []) hl
   have blen : ∀ n, n ≤ r.length → (tokC r n).length ≤ 420 := fun n hn => by
     have := tokC_len r n hn
     have h2 : (lens (r.take n)).sum ≤ (lens r).sum := by
       unfold lens; rw [List.map_take]; exact take_sum_le _ _
     omega
   refine ⟨_, rfl, a, rfl, ⟨_, SqL.of (s0 _ _ ha)⟩, ?_⟩
   refine for_enum (K := K) (a := a) (xs := r.map V.str) (fun i σ H2 => (∃ v1 v2, σ = [some (.ref a), some (.ref l), v1, v2]) ∧ Same H H2 ∧ ∃ ys, H2 l = some (.lst ys) ∧ Paired (RelT K H2) ys (tokC r i)) ⟨⟨_, _, rfl⟩, s0, [], upd_same, .nil⟩ (fun i σ H2 _ q => SqL.of (q.2.1 _ _ ha)) ?_ ?_
   · rintro i e t σ H2 hi ht ⟨⟨v1, v2, rfl⟩, s2, ys, hy, hp⟩
     have hil : i < r.length := by
       have := (List.getElem?_eq_some_iff.mp hi).1
       rwa [List.length_map] at this
     rw [List.getElem?_map] at hi
     cases hz : r[i]? with
     | none => rw [hz] at hi; cases hi
     | some z =>
       rw [hz] at hi
       cases hi
       have hz4 : z.length ≤ 400 := Nat.le_trans (cell_len (List.mem_of_getElem? hz)) hs
       have st := same_new (o := HO.tup [.int (i : Int), .str z]) ht
       have hb := blen i (by omega)
       have hyl := hp.length
       refine ⟨t, _, rfl, SqT.of upd_same, rfl, _, _, rfl, _, _, rfl, rfl, ?_⟩
       have hy1 := st _ _ hy
       have hp1 := paired_imp (fun a b h => RelT.mono st h) hp
       have s21 := s2.trans st
       generalize upd H2 t (HO.tup [.int (i : Int), .str z]) = H3 at st hy1 hp1 s21 ⊢
       clear hp hy s2 st
       refine seq_split (t := tIfS _ _ _) (fun σ' H' => σ' = [some (.ref a), some (.ref l), some (.int (i : Int)), some (.str z)] ∧ Same H H' ∧ ∃ ws, H' l = some (.lst ws) ∧ Paired (RelT K H') ws (tokC r i ++ (if i = 0 then [] else [partT]))) ?_ (fun go => ?_)
       rotate_left
       · refine ⟨_, rfl, _, _, rfl, rfl, _, rfl, ite2 (fun h => ?_) (fun h => ?_)⟩
         · have h0 : (0 : Int) < i := of_decide_eq_true h
           refine ⟨_, rfl, .inl ⟨rfl, _, SqL.of hy1⟩, l, ys, _, rfl, rfl, hy1, Nat.lt_of_le_of_lt (show ys.length ≤ 420 by omega) (by decide), go _ _ ⟨rfl, same_set hl s21, _, upd_same, ?_⟩⟩
           rw [if_neg (by omega)]
           exact paired_imp (fun a b h => RelT.but hy1 h) (paired_snoc hp1 ⟨a_PART, rfl, .inr T.tu_PART⟩)
         · have h0 : i = 0 := by
             have : ¬ (0 : Int) < i := fun q => h (decide_eq_true q)
             omega
           refine go _ _ ⟨rfl, s21, ys, hy1, ?_⟩
           rw [if_pos h0, List.append_nil]
           exact hp1
       clear hy1 hp1 s21 hyl
       rintro σ' H4 ⟨rfl, s4, ws, hw, hpw⟩
       have hwl := hpw.length
       have hwl2 : ws.length ≤ 421 := by
         rw [hwl, List.length_append]
         split
         · simp; omega
         · show _ + 1 ≤ 421; omega
       refine ⟨_, rfl, .inl ⟨rfl, _, SqL.of hw⟩, _, rfl, z, rfl, fun D hD => ?_⟩
       refine comp_str (fun j zs τ H5 => (∃ v, τ = [v]) ∧ Same H4 H5 ∧ H5 D = some (.lst zs) ∧ Paired (RelT K H5) zs ((z.cps.toList.take j).map fun c => (Str.ofString "put", sg c))) ⟨⟨_, rfl⟩, same_new hD, upd_same, .nil⟩ (fun j zs τ H5 _ p => p.2.2.1) ?_ ?_
       · rintro j c zs τ H5 hj ⟨⟨v, rfl⟩, s5, h5, hp5⟩
         have hjl : j < z.cps.toList.length := (List.getElem?_eq_some_iff.mp hj).1
         rw [Array.length_toList] at hjl
         have hjl : j < z.length := hjl
         have hzl := hp5.length
         rw [List.length_map, List.length_take] at hzl
         refine gyes ?_
         refine ⟨_, rfl, (by show 2 ≤ sizeLine; decide), fun u hu5 => ?_⟩
         have s6 := same_new (o := HO.tup [.str (Str.ofString "put"), .str (sg c)]) hu5
         refine ⟨s6 _ _ h5, Nat.lt_of_le_of_lt (show zs.length ≤ 400 by omega) (by decide), ⟨_, rfl⟩, same_set hD (s5.trans s6), upd_same, ?_⟩
         rw [take_snocG hj, List.map_append]
         exact paired_imp (fun a b h => RelT.but (s6 _ _ h5) h) (paired_snoc (paired_imp (fun a b h => RelT.mono s6 h) hp5) ⟨u, rfl, SqT.of upd_same⟩)
       · rintro zs τ H5 ⟨⟨v, rfl⟩, s5, h5, hp5⟩
         rw [List.take_of_length_le (Nat.le_refl _)] at hp5
         have hzl := hp5.length
         rw [List.length_map, Array.length_toList] at hzl
         have hzl : zs.length = z.length := hzl
         have hw5 := s5 _ _ hw
         refine ⟨l, D, ws, zs, rfl, rfl, hw5, h5, Nat.le_trans (show ws.length + zs.length ≤ 1000 by omega) (by decide), ⟨_, _, rfl⟩, same_set hl (s4.trans s5), _, upd_same, ?_⟩
         rw [tokC_succ hz, ← List.append_assoc]
         exact paired_imp (fun a b h => RelT.but hw5 h) (paired_app (paired_imp (fun a b h => RelT.mono s5 h) hpw) hp5)
   · rintro σ H2 ⟨⟨v1, v2, rfl⟩, s2, ys, hy, hp⟩
     rw [List.length_map] at hp
     have hb := blen r.length (Nat.le_refl _)
     have hyl := hp.length
     refine ⟨_, rfl, .inl ⟨rfl, _, SqL.of hy⟩, l, ys, _, rfl, rfl, hy, Nat.lt_of_le_of_lt (show ys.length ≤ 420 by omega) (by decide), ?_⟩
     refine ⟨_, rfl, k l _ _ hl upd_same ?_ (same_set hl s2)⟩
     exact paired_imp (fun a b h => RelT.but hy h) (paired_snoc hp ⟨a_END, rfl, .inr T.tu_END⟩)
def sp_tokens_of (K : PySem.W.Frag) : Sp := fun vs H Q _ => ∃ (a : Addr) (xs : List V) (t : List (List Str)), vs = [.ref a] ∧ H a = some (.lst xs) ∧ Paired (RelRow H) xs t ∧ TabOk t ∧ ∀ (l : Addr) (ys : List V) H', H l = none → H' l = some (.lst ys) → Paired (RelT K H') ys (tokTab t) → Same H H' → Q (.ref l) H'
theorem ok_tokens_of : FnOk P w K mg base CX0 7 f_tokens_of fd_tokens_of ["table"] (sp_tokens_of K) := by
 have G_check_table : FnOk P w K mg base CX0 6 f_check_table fd_check_table ["thing"] (sp_check_table K) := ok_check_table T
 have G_tokens_of_row : FnOk P w K mg base CX0 1 f_tokens_of_row fd_tokens_of_row ["row"] (sp_tokens_of_row K) := ok_tokens_of_row T
 refine T.F_tokens_of.ok sc_tokens_of (fun vs H Q E h => ?_) (fun cdv A outer s H vs Q E hr h => ?_)
 · obtain ⟨a, xs, t, rfl, _⟩ := h; rfl
 · have hu := hu_of hr
   have hu0 := hr.units0
   obtain ⟨a, xs, t, rfl, ha, tr, g, k⟩ := h
   have hlx := tr.length
   refine ⟨_, (pss_cons (ps_expr (pe_call (k := 6) G_check_table (hr.mono (by decide)) rfl T.g_check_table T.F_check_table.kp T.b_check_table .nil pass0 (pa_cons (pv 0) pa_nil)))
     (pss_cons (ps_set (i := 1) sc_tokens_of.nd rfl (by first | exact Or.inl rfl | exact Or.inr rfl) (pe_lst pa_nil))
     (pss_cons (ps_for PassesOwn.never rfl (piK_list K rfl (pv 0)) (pg_name (i := 2) sc_tokens_of.nd rfl (by first | exact Or.inl rfl | exact Or.inr rfl))
     (pss_one (ps_expr (peK_bm K rfl PySem.F.plainAttrs_list PySem.F.slot_list_extend PySem.F.type_list_extend mt_extend (pv 1) (pa_cons (pe_call (k := 1) G_tokens_of_row (hr.mono (by decide)) rfl T.g_tokens_of_row T.F_tokens_of_row.kp T.b_tokens_of_row .nil pass0 (pa_cons (pv 2) pa_nil)) pa_nil)))))
     (pss_one (ps_ret (pv 1)))))), ?_⟩
   refine ⟨_, rfl, a, xs, t, rfl, ha, tr, g, fun H1 s1 => ?_⟩
   refine ⟨by decide, fun l hl => ?_⟩
   have s0 := s1.trans (same_new (o := HO.lst []) hl)
   have hl0 : H l = none := s1.free hl
   refine ⟨_, rfl, a, rfl, ⟨_, SqL.of (s0 _ _ ha)⟩, ?_⟩
   refine for_list (K := K) (a := a) (xs := xs) (fun i σ H2 => (∃ v, σ = [some (.ref a), some (.ref l), v]) ∧ Same H H2 ∧ ∃ ys, H2 l = some (.lst ys) ∧ Paired (RelT K H2) ys (tokTab (t.take i))) ⟨⟨_, rfl⟩, s0, [], upd_same, .nil⟩ (fun i σ H2 _ q => SqL.of (q.2.1 _ _ ha)) ?_ ?_
   · rintro i e σ H2 hi ⟨⟨v, rfl⟩, s2, ys, hy, hp⟩
     obtain ⟨r, hr, b, rfl, hb⟩ := paired_get tr i e hi
     have hrt := List.mem_of_getElem? hr
     have b1 := tab_take g i
     have b2 := tab_take g (i + 1)
     rw [take_snocG hr, tokTab_snoc, List.length_append] at b2
     have hyl := hp.length
     refine ⟨_, rfl, .inl ⟨rfl, _, SqL.of hy⟩, _, rfl, b, r, rfl, s2 _ _ hb, (g.rows r hrt).hi, Nat.le_trans (row_sum hrt) g.sum, fun m zs H3 hm h3 hp3 s3 => ?_⟩
     have hzl := hp3.length
     have hy3 := s3 _ _ hy
     refine ⟨l, m, ys, zs, rfl, rfl, hy3, h3, Nat.le_trans (show ys.length + zs.length ≤ 1600 by omega) (by decide), ⟨_, rfl⟩, same_set hl0 (s2.trans s3), _, upd_same, ?_⟩
     rw [take_snocG hr, tokTab_snoc]
     exact paired_imp (fun a b h => RelT.but hy3 h) (paired_app (paired_imp (fun a b h => RelT.mono s3 h) hp) hp3)
   · rintro σ H2 ⟨⟨v, rfl⟩, s2, ys, hy, hp⟩
     rw [hlx, List.take_of_length_le (Nat.le_refl _)] at hp
     exact ⟨_, rfl, k l ys H2 hl0 hy hp s2⟩
def sp_cell_at (K : PySem.W.Frag) : Sp := fun vs H Q _ => ∃ (l : Addr) (ys : List V) (ts : List (Str × Str)) (n : Nat), vs = [.ref l, .int n] ∧ H l = some (.lst ys) ∧ Paired (RelT K H) ys ts ∧ n ≤ ts.length ∧ ts.length ≤ 9000 ∧ ∀ t H', H' t = some (.tup [.int (cellAt (ts.take n)).1, .int (cellAt (ts.take n)).2]) → Same H H' → Q (.ref t) H'
theorem ok_cell_at : FnOk P w K mg base CX0 1 f_cell_at fd_cell_at ["tokens", "count"] (sp_cell_at K) := by
 refine T.F_cell_at.ok sc_cell_at (fun vs H Q E h => ?_) (fun cdv A outer s H vs Q E hr h => ?_)
 · obtain ⟨l, ys, ts, n, rfl, _⟩ := h; rfl
 · have hu := hu_of hr
   have hu0 := hr.units0
   obtain ⟨l, ys, ts, n, rfl, hl, tp, hn, htl, k⟩ := h
   have hu64 := hr.units
   refine ⟨_, (pss_cons (ps_set (i := 2) sc_cell_at.nd rfl (by first | exact Or.inl rfl | exact Or.inr rfl) pe_int)
     (pss_cons (ps_set (i := 3) sc_cell_at.nd rfl (by first | exact Or.inl rfl | exact Or.inr rfl) pe_int)
     (pss_cons (ps_for PassesOwn.never rfl (piK_list K rfl (pe_slice (slK_list K rfl) (pv 0) po_none (po_some (pv 1)))) (pg_name (i := 4) sc_cell_at.nd rfl (by first | exact Or.inl rfl | exact Or.inr rfl))
     (pss_one (ps_if (pt_cmpR (op_eqN (YL _ _ K) rfl (hn0 hu64)) (pv 4) (pe_gref rfl T.gl_PART) (nomark _)) (pss_one (ps_set (i := 3) sc_cell_at.nd rfl (by first | exact Or.inl rfl | exact Or.inr rfl) (pe_op op_add (pv 3) pe_int))) (pss_one (ps_if (pt_cmpR (op_eqN (YL _ _ K) rfl (hn0 hu64)) (pv 4) (pe_gref rfl T.gl_END) (nomark _)) (pss_cons (ps_set (i := 2) sc_cell_at.nd rfl (by first | exact Or.inl rfl | exact Or.inr rfl) (pe_op op_add (pv 2) pe_int))
     (pss_one (ps_set (i := 3) sc_cell_at.nd rfl (by first | exact Or.inl rfl | exact Or.inr rfl) pe_int))) pss_nil)))))
     (pss_one (ps_ret (pe_tup (pa_cons (pv 2) (pa_cons (pv 3) pa_nil)))))))), ?_⟩
   have tl := tp.length
   refine ⟨_, rfl, _, rfl, _, rfl, _, _, rfl, SqL.of hl, fun l1 hl1 => ⟨_, rfl, ⟨_, SqL.of upd_same⟩, ?_⟩⟩
   rw [cut_take _ _ (by omega)]
   (have s1 := same_new (o := HO.lst (List.take n ys)) hl1; have g1 := upd_same (H := H) (a := l1) (o := HO.lst (List.take n ys)); generalize upd H l1 (HO.lst (List.take n ys)) = H1 at s1 g1 ⊢)
   have tp1 := paired_take n (toks_mono s1 tp)
   have htk : (ts.take n).length = n := by rw [List.length_take]; omega
   refine for_list (K := K) (a := l1) (xs := ys.take n) (fun i σ J => Same H1 J ∧ ∃ v, σ = [some (.ref l), some (.int n), some (.int (cellAt ((ts.take n).take i)).1), some (.int (cellAt ((ts.take n).take i)).2), v]) ⟨Same.refl _, _, rfl⟩ (fun i σ J _ q => SqL.of (q.1 _ _ g1)) ?_ ?_
   · rintro i e σ J hi ⟨sJ, v, rfl⟩
     obtain ⟨t, ht, a, rfl, ha⟩ := paired_get tp1 i e hi
     have hil : i < (ys.take n).length := (List.getElem?_eq_some_iff.mp hi).1
     rw [List.length_take] at hil
     have hc : cellAt ((ts.take n).take (i + 1)) = cAt (cellAt ((ts.take n).take i)) t := by rw [take_snocG ht]; unfold cellAt; rw [List.foldl_append]; rfl
     rw [hc]
     have hb := cellAt_le ((ts.take n).take i) (0, 0)
     rw [List.length_take] at hb
     have hb : (cellAt ((ts.take n).take i)).1 ≤ 9000 ∧ (cellAt ((ts.take n).take i)).2 ≤ 9000 := by unfold cellAt; omega
     generalize cellAt ((ts.take n).take i) = rc at hb ⊢
     have haJ := sqt_mono sJ ha
     dsimp only [gName]
     refine ⟨_, rfl, a, a_PART, _, _, rfl, rfl, pair_at (P := P) (w := w) haJ, pair_at (P := P) (w := w) (.inr T.tu_PART), _, rfl, rd2 (fun h1 => ?_) (fun h1 => ?_)⟩
     · have h1 := pairK_inj.mp h1
       have e1 : t = partT := h1
       refine ⟨_, rfl, _, _, rfl, rfl, sJ, some (.ref a), ?_⟩
       unfold cAt
       rw [if_pos e1]
       rfl
     · have h1 : ¬ t = partT := fun q => h1 (pairK_inj.mpr q)
       refine ⟨_, rfl, a, a_END, _, _, rfl, rfl, pair_at (P := P) (w := w) haJ, pair_at (P := P) (w := w) (.inr T.tu_END), _, rfl, rd2 (fun h2 => ?_) (fun h2 => ?_)⟩
       · have h2 := pairK_inj.mp h2
         have e2 : t = endT := h2
         refine ⟨_, rfl, _, _, rfl, rfl, sJ, some (.ref a), ?_⟩
         unfold cAt
         rw [if_neg h1, if_pos e2]
         rfl
       · have h2 : ¬ t = endT := fun q => h2 (pairK_inj.mpr q)
         refine ⟨sJ, some (.ref a), ?_⟩
         unfold cAt
         rw [if_neg h1, if_neg h2]
         rfl
   rintro σ J ⟨sJ, v, rfl⟩
   rw [List.length_take, show min n ys.length = n by omega, List.take_of_length_le (by omega)]
   refine ⟨_, rfl, _, rfl, (by show 2 ≤ sizeLine; decide), fun t ht => ?_⟩
   exact k t _ upd_same (s1.trans (sJ.trans (same_new ht)))
def sp_NoWriting___init__ (CN : Addr) : Sp := fun vs H Q _ => ∃ (ea : Addr) (r c : Int), vs = [.ref ea, .int r, .int c] ∧ H ea = some (xmO ea (.ref CN) none) ∧ r.natAbs.log2 < 1920 ∧ c.natAbs.log2 < 1920 ∧ ∀ d H', H d = none → d ≠ ea → H' ea = some (xmO ea (.ref CN) (some d)) → H' d = some (xdO d (nwF r c)) → (∀ b, b ≠ ea → b ≠ d → H' b = H b) → Q .non H'
theorem ok_NoWriting___init__ : FnOk P w K mg base CX0 1 f_NoWriting___init__ fd_NoWriting___init__ ["self", "row", "cell"] (sp_NoWriting___init__ C_NoWriting) := by
 refine T.F_NoWriting___init__.ok sc_NoWriting___init__ (fun vs H Q E h => ?_) (fun cdv A outer s H vs Q E hr h => ?_)
 · obtain ⟨ea, r, c, rfl, _⟩ := h; rfl
 · have hu := hu_of hr
   have hu0 := hr.units0
   obtain ⟨ea, r, c, rfl, hea, hr0, hc0, k⟩ := h
   refine ⟨_, (pss_cons (ps_expr (pe_xinit rfl T.g_DialectError T.xi_DialectError T.x_NoWriting (.inr ⟨_, _, rfl, T.x_DialectError⟩) (pa_cons (pv 0) (pa_cons (pe_joined (pj_cons pe_str (pj_cons (pe_fmt (pv 2)) (pj_cons pe_str (pj_cons (pe_fmt (pv 1)) pj_nil))))) pa_nil))))
     (pss_cons (ps_xfld1 rfl T.x_NoWriting (.inr ⟨_, _, rfl, T.x_DialectError⟩) T.xa_NoWriting_row (pv 0) (pv 1) rfl)
     (pss_one (ps_xfld2 T.x_NoWriting (.inr ⟨_, _, rfl, T.x_DialectError⟩) T.xa_NoWriting_cell (pv 0) (pv 2) rfl)))), ?_⟩
   refine ⟨_, rfl, _, rfl, by decide +kernel, _, rfl, .inl ⟨c, rfl, hc0⟩, fun z1 l1 => ⟨_, rfl, l1, _, rfl, by decide +kernel, _, rfl, .inl ⟨r, rfl, hr0⟩, fun z2 l2 => ⟨_, rfl, l2, fun zz => ?_⟩⟩⟩
   refine ⟨ea, none, _, rfl, hea, ?_⟩
   refine ⟨_, rfl, _, rfl, ea, rfl, hea, fun d hd => ?_⟩
   have nd : d ≠ ea := fun z => by rw [z, hea] at hd; cases hd
   refine ⟨_, rfl, _, rfl, ea, d, _, rfl, (upd_ne (Ne.symm nd)).trans upd_same, upd_same, (by show 1 < 1000; decide), ?_⟩
   refine k d _ hd nd ((upd_ne (Ne.symm nd)).trans ((upd_ne (Ne.symm nd)).trans upd_same)) upd_same fun b h1 h2 => ?_
   rw [upd_ne h2, upd_ne h2, upd_ne h1]
def sp_shortest (P : Program) (w : World) (K : PySem.W.Frag) (C CT CM CW CN : Addr) : Sp := fun vs H Q E => ∃ (x dx a : Addr) (xs : List V) (t : List (List Str)) (p q f : Str) (b1 b2 b3 b4 : Bool), vs = [.ref x, .ref a] ∧ H x = some (.ins C dx (dfl p q f b1 b2 b3 b4)) ∧ Gd p q f ∧ H a = some (.lst xs) ∧ Paired (RelRow H) xs t ∧ TabOk t ∧ (∀ cs H', RdT p q f b1 b2 b3 b4 (tokTab t) cs → LeastT p q f b1 b2 b3 b4 (tokTab t) cs.length → cs.length ≤ 1 + 11 * (tokTab t).length → (∀ c ∈ cs, c = 10 ∨ Pn c) → Same H H' → Q (.str (Txt.join (Str.ofString "") (cs.map sg))) H') ∧ (∀ n, NoW p q f b1 b2 b3 b4 (tokTab t) → MaxT p q f b1 b2 b3 b4 (tokTab t) n → ∀ d H', H d = none → H' d = some (xdO d (nwF (cellAt ((tokTab t).take n)).1 (cellAt ((tokTab t).take n)).2)) → Same H H' → E (.ref CN) (some d) H')
theorem ok_shortest : FnOk P w K mg base (CXe P w) 12 f_shortest fd_shortest ["dialect", "table"] (sp_shortest P w K C_Dialect C_Turn C_Marker C_Writer C_NoWriting) := by
 have G_NoWriting___init__ : FnOk P w K mg base CX0 1 f_NoWriting___init__ fd_NoWriting___init__ ["self", "row", "cell"] (sp_NoWriting___init__ C_NoWriting) := ok_NoWriting___init__ T
 have G_Writer___init__ : FnOk P w K mg base CX0 10 f_Writer___init__ fd_Writer___init__ ["self", "dialect", "tokens"] (sp_Writer___init__ K C_Dialect C_Turn C_Marker C_Writer) := ok_Writer___init__ T
 have G_cell_at : FnOk P w K mg base CX0 1 f_cell_at fd_cell_at ["tokens", "count"] (sp_cell_at K) := ok_cell_at T
 have G_search : FnOk P w K mg base CX0 7 f_search fd_search ["first", "searched", "most"] (sp_search P w K C_Dialect C_Turn C_Marker C_Writer) := ok_search T
 have G_text_to : FnOk P w K mg base CX0 1 f_text_to fd_text_to ["came", "place"] (sp_text_to P w K) := ok_text_to T
 have G_tokens_of : FnOk P w K mg base CX0 7 f_tokens_of fd_tokens_of ["table"] (sp_tokens_of K) := ok_tokens_of T
 refine T.F_shortest.okE sc_shortest (fun vs H Q E h => ?_) (fun cdv A outer s H vs Q E hr h => ?_)
 · obtain ⟨x, dx, a, xs, t, p, q, f, b1, b2, b3, b4, rfl, _⟩ := h; rfl
 · have hu := hu_of hr
   have hu0 := hr.units0
   obtain ⟨x, dx, a, xs, t, p, q, f, b1, b2, b3, b4, rfl, hx, g, ha, pr, tok, k1, k2⟩ := h
   have hu64 := hr.units
   have uo := uok (b1 := b1) (b2 := b2) (b3 := b3) (b4 := b4) g (endsE_tab (t := t)) (tab_le tok)
   refine ⟨_, (pss_cons (ps_set (i := 2) sc_shortest.nd rfl (by first | exact Or.inl rfl | exact Or.inr rfl) (pe_call (k := 7) G_tokens_of (hr.mono (by decide)) rfl T.g_tokens_of T.F_tokens_of.kp T.b_tokens_of .nil pass0 (pa_cons (pv 1) pa_nil)))
     (pss_cons (ps_set (i := 3) sc_shortest.nd rfl (by first | exact Or.inl rfl | exact Or.inr rfl) (pe_call (k := 7) G_search (hr.mono (by decide)) rfl T.g_search T.F_search.kp T.bf_search_0.choose_spec.2 T.bf_search_0.choose_spec.1 pass0 (pa_cons (pe_tup (pa_cons (pe_gref rfl T.gl_START) (pa_cons pe_int pa_nil))) (pa_cons (pe_make (k := 10) T.M_Writer G_Writer___init__ (hr.mono (by decide)) rfl T.g_Writer T.b_Writer___init__ .nil pass0 (pa_cons (pv 0) (pa_cons (pv 2) pa_nil))) pa_nil))))
     (pss_cons (ps_set (i := 4) sc_shortest.nd rfl (by first | exact Or.inl rfl | exact Or.inr rfl) (pe_ix (ixK_tup K rfl) (pv 3) pe_int (fun _ _ => rfl)))
     (pss_cons (ps_if (pt_cmpR op_isN (pe_ix (ixK_tup K rfl) (pv 3) pe_int (fun _ _ => rfl)) pe_non (nomark _)) (pss_cons (ps_set (i := 5) sc_shortest.nd rfl (by first | exact Or.inl rfl | exact Or.inr rfl) (pe_call (k := 1) G_cell_at (hr.mono (by decide)) rfl T.g_cell_at T.F_cell_at.kp T.b_cell_at .nil pass0 (pa_cons (pv 2) (pa_cons (pe_callB (callK_max K rfl rfl) rfl T.no_max (by decide +kernel) (pa_cons (pe_comp rfl (show CompScope ["dialect", "table", "tokens", "found", "came", "lacking"] (defScope s_shortest) ["place"] 1 [] _ from ⟨rfl, by decide +kernel, by decide +kernel, by decide +kernel, by decide +kernel, rfl, rfl, by decide +kernel⟩) (piP_nest (YM P w K) (ZM_lev P w) rfl rfl rfl (pv 4)) (fun _ _ _ _ => (pg_name (i := 0) (show (["place"] : List Str).Nodup by decide +kernel) rfl (by first | exact Or.inl rfl | exact Or.inr rfl))) (fun _ _ _ _ => pif_nil) (fun _ _ _ _ => (pe_ix (ixK_tup K rfl) (pv 0) pe_int (fun _ _ => rfl)))) pa_nil)) pa_nil))))
     (pss_one (ps_raiseI rfl T.x_NoWriting (.inr ⟨_, _, rfl, T.x_DialectError⟩) T.lf_NoWriting.choose_spec.1 T.lf_NoWriting.choose_spec.2 G_NoWriting___init__ (hr.mono (by decide)) T.b_NoWriting___init__ T.kpx_NoWriting rfl T.g_NoWriting (pa_cons (pe_ix (ixK_tup K rfl) (pv 5) pe_int (fun _ _ => rfl)) (pa_cons (pe_ix (ixK_tup K rfl) (pv 5) pe_int (fun _ _ => rfl)) pa_nil))))) pss_nil)
     (pss_one (ps_ret (pe_call (k := 1) G_text_to (hr.mono (by decide)) rfl T.g_text_to T.F_text_to.kp T.b_text_to .nil pass0 (pa_cons (pv 4) (pa_cons (pe_ix (ixK_tup K rfl) (pv 3) pe_int (fun _ _ => rfl)) pa_nil))))))))), ?_⟩
   refine ⟨_, rfl, a, xs, t, rfl, ha, pr, tok, fun l ts H1 hl0 hl1 rt s1 => ?_⟩
   dsimp only [gName]
   refine ⟨(by show 2 ≤ sizeLine; decide), fun t2 ht2 => ?_⟩
   have s2 := same_new (o := HO.tup [.ref a_START, .int 0]) ht2
   have h2 := upd_same (H := H1) (a := t2) (o := HO.tup [.ref a_START, .int 0])
   generalize upd H1 t2 (HO.tup [.ref a_START, .int 0]) = H2 at s2 h2 ⊢
   have s12 := s1.trans s2
   refine ⟨_, rfl, _, rfl, fun z dz hz hdz ne => ⟨z, dz, x, dx, l, ts, tokTab t, p, q, f, b1, b2, b3, b4, rfl, upd_same, made_old hz hdz (s12 _ _ hx), g, made_old hz hdz (s2 _ _ hl1), toks_mono (s2.trans (same_ins' hz hdz)) rt, fun H3 hW kp => ⟨rfl, ?_⟩⟩⟩
   have s3 := same_make hz hdz kp
   have s13 := s12.trans s3
   have hm0 : MrkAt K H3 m0 (.ref t2) := ⟨t2, a_START, rfl, SqT.of (s3 _ _ h2), .inr T.tu_START⟩
   refine ⟨z, .ref t2, uL q (tokTab t), tokTab t, p, q, f, b1, b2, b3, b4, rfl, hW, g, hm0, tok1_tab, uo.len, uo.one, uo.shut, uo.good, fun tf rv r a2 cm H4 ha2 hcl htf hrv hcm hrun s4 => ?_⟩
   have out := run_out hrun
   have ule := uL_len g (tokTab t)
   dsimp only [gName]
   have s14 := s13.trans s4
   refine ⟨_, rfl, tf, _, _, _, rfl, rfl, SqT.of htf, rfl, ?_⟩
   dsimp only [gName]
   cases r with
   | none =>
     have hrv : rv = .non := hrv
     subst hrv
     obtain ⟨kvs, nd, cr⟩ := hcm.ok
     have hno : ∀ cs m, WalkC (ledM p q f b1 b2 b3 b4 (tokTab t)) m0 cs m → gdM (tokTab t) m = false := fun cs m hw => (out.2 cs m hw).2
     refine ⟨_, rfl, tf, _, _, _, rfl, rfl, SqT.of htf, rfl, rfl, _, rfl, iteBt rfl ?_⟩
     have ha20 : H a2 = none := s13.free ha2
     have s34 := (s2.trans s3).trans s4
     have hl4 := s34 _ _ hl1
     have rt4 := toks_mono s34 rt
     have nla : l ≠ a2 := ne_of hl4 nd.ob (fun q => nomatch q)
     refine ⟨_, rfl, _, rfl, a2, kvs, rfl, nd, fun o D hD => ?_⟩
     have tq := dN_tup (F := K) nd.ob (o := dX (ZM P w) (ZM_lev P w) a2 kvs o)
     have cr5 := cr.keep tq
     have s5 : Same H (upd H4 a2 (dX (ZM P w) (ZM_lev P w) a2 kvs o)) := same_set ha20 s14
     have hl5 := (upd_ne (o := dX (ZM P w) (ZM_lev P w) a2 kvs o) nla).trans hl4
     have rt5 : Paired (RelT K (upd H4 a2 (dX (ZM P w) (ZM_lev P w) a2 kvs o))) ts (tokTab t) := paired_imp (fun v y ⟨b, e1, e2⟩ => ⟨b, e1, tq _ _ e2⟩) rt4
     have h5a : (upd H4 a2 (dX (ZM P w) (ZM_lev P w) a2 kvs o)) a2 = some (dX (ZM P w) (ZM_lev P w) a2 kvs o) := upd_same
     generalize upd H4 a2 (dX (ZM P w) (ZM_lev P w) a2 kvs o) = H5 at hD cr5 s5 hl5 rt5 h5a ⊢
     have kl := crel_len cr5
     refine comp_nest (fun i ys τ G => (∃ v, τ = [v]) ∧ Same H5 G ∧ G D = some (.lst ys) ∧ ys = ((cm.take i).map (fun e => e.1.2)).map fun n : Nat => V.int n) ⟨⟨_, rfl⟩, same_new hD, upd_same, rfl⟩ (fun i ys τ G _ p => ⟨p.2.1 _ _ h5a, p.2.2.1⟩) ?_ ?_
     · rintro i e ys τ G hi ⟨⟨v, rfl⟩, sG, hG, rfl⟩
       have hil := (List.getElem?_eq_some_iff.mp hi).1
       obtain ⟨pm, hpm, e1, ⟨b, sb, eb, hb, hsb⟩, _⟩ := paired_get cr5 i e hi
       refine gyes ?_
       refine ⟨_, rfl, b, _, _, _, eb, rfl, sqt_mono sG hb, rfl, hG, ?_, ⟨_, rfl⟩, same_set hD sG, upd_same, ?_⟩
       · rw [List.length_map, List.length_map, List.length_take]
         exact Nat.lt_of_le_of_lt (show _ ≤ 100000 by have := uo.len; omega) (by decide)
       · rw [take_snocG hpm, List.map_append, List.map_append]; rfl
     · rintro ys τ G ⟨⟨v, rfl⟩, sG, hG, rfl⟩
       rw [kl, List.take_of_length_le (Nat.le_refl _)] at hG
       have hhas := fun cs m hw => (out.2 cs m hw).1
       refine ⟨D, cm.map (fun e => e.1.2), rfl, SqL.of hG, ?_, fun n hn1 hn2 => ?_⟩
       · have := hasC_mem.mp (hhas [] m0 .nil)
         intro q
         rw [List.map_eq_nil_iff] at q
         rw [q] at this; cases this
       have hmax : MaxT p q f b1 b2 b3 b4 (tokTab t) n := by
         refine ⟨?_, fun cs m hw => ?_⟩
         · obtain ⟨e, he, e2⟩ := List.mem_map.mp hn1
           obtain ⟨n', x', xs', _, _, hw', _⟩ := out.1 e.1 (hasC_mem.mpr (List.mem_map.mpr ⟨e, he, rfl⟩))
           exact ⟨_, _, hw', e2⟩
         · obtain ⟨e, he, e2⟩ := List.mem_map.mp (hasC_mem.mp (hhas cs m hw))
           have := hn2 e.1.2 (List.mem_map.mpr ⟨e, he, rfl⟩)
           rw [e2] at this
           exact this
       have hW0 : NoW p q f b1 b2 b3 b4 (tokTab t) := (noW_of endsE_tab).mpr hno
       have hlt := maxT_lt endsE_tab hW0 hmax
       have htl := tab_le tok
       refine ⟨l, ts, tokTab t, n, rfl, sG _ _ hl5, toks_mono sG rt5, by omega, htl, fun tc H6 htc s6 => ?_⟩
       dsimp only [gName]
       have s16 := s5.trans (sG.trans s6)
       have hT := SqT.of (K := K) htc
       have hb := cellAt_le ((tokTab t).take n) (0, 0)
       rw [List.length_take] at hb
       have hb : (cellAt ((tokTab t).take n)).1 ≤ 1600 ∧ (cellAt ((tokTab t).take n)).2 ≤ 1600 := by
         have := tab_take tok t.length
         rw [List.take_length] at this
         unfold cellAt; omega
       refine ⟨_, rfl, tc, _, _, _, rfl, rfl, hT, rfl, _, rfl, tc, _, _, _, rfl, rfl, hT, rfl, (by show 2 ≤ sizeLine; decide), fun ea hea => ?_⟩
       refine ⟨ea, _, _, rfl, upd_same, small_log (by omega), small_log (by omega), fun d H' hd nd e1 e2 oth => ⟨rfl, some d, e1, ?_⟩⟩
       refine k2 n hW0 hmax d _ (s16.free ((upd_ne (o := xmO ea (.ref C_NoWriting) none) nd).symm.trans hd)) ?_ (same_raise s16 hea hd oth)
       rw [del_ne nd]; exact e2
   | some m1 =>
     obtain ⟨n, hnl, ⟨x1, xs1, v1, l1, w1, e1⟩, hmin⟩ := run_bnd hrun
     have hg1 := out.1
     obtain ⟨b1', s1', rfl, q1, q2⟩ := (show MrkAt K H4 m1 rv from hrv)
     have htl := tab_le tok
     refine ⟨_, rfl, tf, _, _, _, rfl, rfl, SqT.of htf, rfl, rfl, _, rfl, iteBf rfl ?_⟩
     refine ⟨_, rfl, _, rfl, tf, _, _, _, rfl, rfl, SqT.of htf, rfl, a2, .ref b1', cm, m1, x1, xs1, rfl, hcm, hrv, v1, l1, by omega, fun H5 s5 => ?_⟩
     rw [← List.map_reverse]
     obtain ⟨hrd, hls⟩ := least_of endsE_tab w1 hg1 fun ys m a b => by rw [List.length_reverse, e1]; exact hmin ys m a b
     exact k1 xs1.reverse H5 hrd hls (by rw [List.length_reverse]; omega) (walk_ok g (tok_cell fun r hr => (tok.rows r hr).ok) w1) (s14.trans s5)
def sp__law_cell_at (K : PySem.W.Frag) : Sp := fun vs H Q _ => ∃ (a : Addr) (ns : List Int) (i : Int), vs = [.ref a, .int i] ∧ SqL K H a (ns.map V.int) ∧ 0 ≤ i ∧ ∀ r : Int, Q (.int r) H
theorem ok__law_cell_at : FnOk P w K mg base CX0 1 f__law_cell_at fd__law_cell_at ["_law_script", "_law_k"] (sp__law_cell_at K) := by
 refine T.F__law_cell_at.ok sc__law_cell_at (fun vs H Q E h => ?_) (fun cdv A outer s H vs Q E hr h => ?_)
 · obtain ⟨a, ns, i, rfl, _⟩ := h; rfl
 · have hu := hu_of hr
   have hu0 := hr.units0
   obtain ⟨a, ns, i, rfl, hS, hi, k⟩ := h
   refine ⟨_, (pss_cons (ps_if (pt_cmpR op_lt (pv 1) (pe_callB (callK_len_seq K rfl) rfl T.no_len (by decide +kernel) (pa_cons (pv 0) pa_nil)) (nomark _)) (pss_one (ps_ret (pe_ix (ixK_list K rfl) (pv 0) (pv 1) (fun _ _ => rfl)))) pss_nil)
     (pss_one (ps_ret pe_int))), ?_⟩
   refine ⟨_, rfl, _, rfl, a, _, rfl, .inl hS, _, _, rfl, rfl, _, rfl, ?_⟩
   refine ite2 (fun hc => ?_) (fun _ => ?_)
   · have hlt := of_decide_eq_true hc
     obtain ⟨v, ev, hv⟩ := at_int hi hlt
     obtain ⟨r, _, rfl⟩ := List.mem_map.mp hv
     exact ⟨_, rfl, _, rfl, a, _, _, _, rfl, rfl, hS, ev, k r⟩
   · exact k 0
def sp__law_mixed : Sp := fun vs H Q _ => ∃ a b : Int, vs = [.int a, .int b] ∧ 0 ≤ a ∧ a < 4294967296 ∧ 0 ≤ b ∧ b < 65536 ∧ ∀ r : Int, 0 ≤ r → r < 49979687 → Q (.int r) H
theorem ok__law_mixed : FnOk P w K mg base CX0 1 f__law_mixed fd__law_mixed ["_law_number_here", "_law_salt"] sp__law_mixed := by
 refine T.F__law_mixed.ok sc__law_mixed (fun vs H Q E h => ?_) (fun cdv A outer s H vs Q E hr h => ?_)
 · obtain ⟨a, b, rfl, _⟩ := h; rfl
 · have hu := hu_of hr
   have hu0 := hr.units0
   obtain ⟨a, b, rfl, ha, ha', hb, hb', k⟩ := h
   refine ⟨_, (pss_cons (ps_set (i := 2) sc__law_mixed.nd rfl (by first | exact Or.inl rfl | exact Or.inr rfl) (pe_op op_mod (pe_op op_add (pe_op op_mul (pv 0) (pe_op op_add pe_int (pe_op op_mul pe_int (pv 1)))) (pe_op op_mul pe_int (pv 1))) pe_int))
     (pss_cons (ps_set (i := 3) sc__law_mixed.nd rfl (by first | exact Or.inl rfl | exact Or.inr rfl) (pe_op op_mod (pe_op op_add (pe_op op_mul (pv 2) (pv 2)) (pv 1)) pe_int))
     (pss_one (ps_ret (pe_op op_mod (pe_op op_add (pe_op op_mul (pv 3) (pv 3)) (pv 2)) pe_int))))), ?_⟩
   refine ⟨_, rfl, _, rfl, _, _, rfl, rfl, .inl ⟨by decide, by decide⟩, _, _, rfl, rfl, _, _, rfl, rfl, .inl ⟨by omega, by omega⟩, _, rfl, _, _, rfl, rfl, .inl ⟨by decide, by decide⟩, _, _, rfl, rfl, _, _, rfl, rfl, (by show (0 : Int) < 15485863; decide), ?_⟩
   have h1 := Int.emod_nonneg (a * (1299709 + 210 * b) + 7919 * b) (show (15485863 : Int) ≠ 0 by decide)
   have h2 := Int.emod_lt_of_pos (a * (1299709 + 210 * b) + 7919 * b) (show (0 : Int) < 15485863 by decide)
   refine ⟨_, rfl, _, rfl, _, _, rfl, rfl, .inl ⟨by omega, by omega⟩, _, rfl, _, _, rfl, rfl, _, _, rfl, rfl, (by show (0 : Int) < 32452843; decide), ?_⟩
   refine ⟨_, rfl, _, rfl, _, _, rfl, rfl, .inl ⟨?_, ?_⟩, _, rfl, _, _, rfl, rfl, _, _, rfl, rfl, (by show (0 : Int) < 49979687; decide), ?_⟩
   · exact Int.lt_of_lt_of_le (by decide) (Int.emod_nonneg _ (by decide))
   · exact Int.lt_trans (Int.emod_lt_of_pos _ (by decide)) (by decide)
   · exact k _ (Int.emod_nonneg _ (by decide)) (Int.emod_lt_of_pos _ (by decide))
def sp__law_number : Sp := fun vs H Q _ => ∃ c s : Int, vs = [.int c, .int s] ∧ 0 ≤ s ∧ s < 60000 ∧ ∀ r : Int, Q (.int r) H
theorem ok__law_number : FnOk P w K mg base CX0 2 f__law_number fd__law_number ["_law_cell", "_law_salt"] sp__law_number := by
 have G__law_mixed : FnOk P w K mg base CX0 1 f__law_mixed fd__law_mixed ["_law_number_here", "_law_salt"] sp__law_mixed := ok__law_mixed T
 refine T.F__law_number.ok sc__law_number (fun vs H Q E h => ?_) (fun cdv A outer s H vs Q E hr h => ?_)
 · obtain ⟨c, s, rfl, _⟩ := h; rfl
 · have hu := hu_of hr
   have hu0 := hr.units0
   obtain ⟨c, sa, rfl, hs, hs', k⟩ := h
   refine ⟨_, (pss_cons (ps_if (PW.pt (pw_and (pt_cmpR op_eq (pe_op op_mod (pv 0) pe_int) pe_int (nomark _)) (pw_and1 (pt_cmpR op_ge (pv 0) (pe_op op_mul pe_int (pe_op op_pow pe_int pe_int)) (nomark _))))) (pss_one (ps_ret (pe_op op_sub (pe_op op_fdiv (pv 0) pe_int) (pe_op op_pow pe_int pe_int)))) pss_nil)
     (pss_cons (ps_set (i := 2) sc__law_number.nd rfl (by first | exact Or.inl rfl | exact Or.inr rfl) (pe_op op_mod (pv 0) pe_int))
     (pss_cons (ps_set (i := 3) sc__law_number.nd rfl (by first | exact Or.inl rfl | exact Or.inr rfl) (pe_op op_add (pe_op op_mul (pe_call (k := 1) G__law_mixed (hr.mono (by decide)) rfl T.g__law_mixed T.F__law_mixed.kp T.b__law_mixed .nil pass0 (pa_cons (pv 2) (pa_cons (pv 1) pa_nil))) pe_int) (pe_call (k := 1) G__law_mixed (hr.mono (by decide)) rfl T.g__law_mixed T.F__law_mixed.kp T.b__law_mixed .nil pass0 (pa_cons (pv 2) (pa_cons (pe_op op_add (pv 1) pe_int) pa_nil)))))
     (pss_one (ps_ret (pe_op op_add (pe_op op_mul (pv 3) pe_int) (pe_call (k := 1) G__law_mixed (hr.mono (by decide)) rfl T.g__law_mixed T.F__law_mixed.kp T.b__law_mixed .nil pass0 (pa_cons (pv 2) (pa_cons (pe_op op_add (pv 1) pe_int) pa_nil))))))))), ?_⟩
   have p18 : CPow 10 18 := ⟨by decide, by decide, by decide⟩
   have n0 : 0 ≤ c % 1000000007 := Int.emod_nonneg _ (by decide)
   have n1 : c % 1000000007 < 4294967296 := Int.lt_trans (Int.emod_lt_of_pos _ (by decide)) (by decide)
   refine ⟨_, rfl, _, _, rfl, rfl, (by show (0 : Int) < 2; decide), rfl, _, rfl, ?_⟩
   refine ite2 (fun _ => ?_) (fun _ => ?_)
   · refine ⟨_, rfl, _, _, rfl, rfl, p18, _, _, rfl, rfl, .inl ⟨by decide, by decide⟩, _, _, rfl, rfl, _, rfl, ?_⟩
     refine ite2 (fun _ => ?_) (fun _ => ?_)
     · exact ⟨_, rfl, _, _, rfl, rfl, ⟨by decide, by decide⟩, _, _, rfl, rfl, p18, _, _, rfl, rfl, k _⟩
     · refine ⟨_, rfl, _, _, rfl, rfl, (by show (0 : Int) < 1000000007; decide), ?_⟩
       refine ⟨_, rfl, _, rfl, _, _, rfl, n0, n1, by omega, by omega, fun r1 _ _ => ?_⟩
       refine ⟨_, _, rfl, rfl, .inr ⟨by decide, by decide⟩, _, rfl, _, rfl, _, _, rfl, rfl, _, _, rfl, n0, n1, by omega, by omega, fun r2 _ _ => ⟨_, _, rfl, rfl, ?_⟩⟩
       refine ⟨_, rfl, _, _, rfl, rfl, .inr ⟨by decide, by decide⟩, _, rfl, _, rfl, _, _, rfl, rfl, _, _, rfl, n0, n1, by omega, by omega, fun r3 _ _ => ⟨_, _, rfl, rfl, k _⟩⟩
   · refine ⟨_, rfl, _, _, rfl, rfl, (by show (0 : Int) < 1000000007; decide), ?_⟩
     refine ⟨_, rfl, _, rfl, _, _, rfl, n0, n1, by omega, by omega, fun r1 _ _ => ?_⟩
     refine ⟨_, _, rfl, rfl, .inr ⟨by decide, by decide⟩, _, rfl, _, rfl, _, _, rfl, rfl, _, _, rfl, n0, n1, by omega, by omega, fun r2 _ _ => ⟨_, _, rfl, rfl, ?_⟩⟩
     refine ⟨_, rfl, _, _, rfl, rfl, .inr ⟨by decide, by decide⟩, _, rfl, _, rfl, _, _, rfl, rfl, _, _, rfl, n0, n1, by omega, by omega, fun r3 _ _ => ⟨_, _, rfl, rfl, k _⟩⟩
def sp__law_some : Sp := fun vs H Q _ => ∃ (n m : Int) (me : Str), vs = [.int n, .int m, .str me] ∧ Mn me ∧ 0 ≤ m ∧ m ≤ 3 ∧ ∀ (t : Addr) (z : Str) (r : Int), Sg z → (z.length : Int) ≤ m → (1 ≤ m → 1 ≤ z.length) → H t = none → Q (.ref t) (upd H t (.tup [.str z, .int r]))
theorem ok__law_some : FnOk P w K mg base CX0 1 f__law_some fd__law_some ["_law_number_here", "_law_many", "_law_menu"] sp__law_some := by
 refine T.F__law_some.ok sc__law_some (fun vs H Q E h => ?_) (fun cdv A outer s H vs Q E hr h => ?_)
 · obtain ⟨n, m, me, rfl, _⟩ := h; rfl
 · have hu := hu_of hr
   have hu0 := hr.units0
   obtain ⟨n, m, me, rfl, ⟨hm1, hm2, hm3⟩, h0, h3, k⟩ := h
   have hml : me.length ≤ sizeLine := Nat.le_trans hm2 (by decide)
   refine ⟨_, (pss_cons (ps_set (i := 3) sc__law_some.nd rfl (by first | exact Or.inl rfl | exact Or.inr rfl) pe_str)
     (pss_cons (ps_for PassesOwn.never rfl (pi_range1 rfl T.no_range (pa_cons (pv 1) pa_nil)) (pg_name (i := 4) sc__law_some.nd rfl (by first | exact Or.inl rfl | exact Or.inr rfl))
     (pss_cons (ps_set (i := 5) sc__law_some.nd rfl (by first | exact Or.inl rfl | exact Or.inr rfl) (pe_ix ix_str (pv 2) (pe_op op_mod (pv 0) (pe_callB call_len_str rfl T.no_len (by decide +kernel) (pa_cons (pv 2) pa_nil))) (fun _ _ => rfl)))
     (pss_cons (ps_set (i := 0) sc__law_some.nd rfl (by first | exact Or.inl rfl | exact Or.inr rfl) (pe_op op_fdiv (pv 0) (pe_callB call_len_str rfl T.no_len (by decide +kernel) (pa_cons (pv 2) pa_nil))))
     (pss_one (ps_if (pt_cmpR op_notIn_str (pv 5) (pv 3) rfl) (pss_one (ps_set (i := 3) sc__law_some.nd rfl (by first | exact Or.inl rfl | exact Or.inr rfl) (pe_op op_add_str (pv 3) (pv 5)))) pss_nil)))))
     (pss_one (ps_ret (pe_tup (pa_cons (pv 3) (pa_cons (pv 0) pa_nil))))))), ?_⟩
   refine ⟨_, rfl, m, rfl, by omega, by omega, ?_⟩
   refine for_range (fun i σ H2 => H2 = H ∧ ∃ (r : Int) (z : Str) (v1 v2 : Option V), σ = [some (.int r), some (.int m), some (.str me), some (.str z), v1, v2] ∧ Sg z ∧ z.length ≤ i ∧ (1 ≤ i → 1 ≤ z.length)) ⟨rfl, n, _, _, _, rfl, sg_nil, by decide, fun z => absurd z (by decide)⟩ ?_ ?_
   · rintro i σ H2 hi ⟨rfl, r, z, v1, v2, rfl, g, hz, hz1⟩
     have hlen : me.cps.toList.length = me.length := by rw [Array.length_toList]; rfl
     obtain ⟨c, ec, hc⟩ := at_int (xs := me.cps.toList) (Int.emod_nonneg r (show (me.length : Int) ≠ 0 by omega)) (by rw [hlen]; exact Int.emod_lt_of_pos r (by omega))
     refine ⟨_, rfl, _, rfl, _, rfl, me, rfl, hml, _, _, rfl, rfl, (by show (0 : Int) < me.length; omega), me, _, c, rfl, rfl, hml, ec, ?_⟩
     refine ⟨_, rfl, _, rfl, me, rfl, hml, _, _, rfl, rfl, ⟨by show (0 : Int) < me.length; omega, by show (me.length : Int) < 1073741824; omega⟩, ?_⟩
     refine ⟨_, rfl, _, rfl, _, _, rfl, rfl, _, rfl, ?_⟩
     refine ite2 (fun ha => ?_) (fun ha => ?_)
     · have e1 : (z ++ (⟨#[c]⟩ : Str)).length = z.length + 1 := app_len _ _
       refine ⟨_, rfl, _, rfl, _, _, rfl, rfl, ?_, rfl, _, _, _, _, rfl, sg_add g (hm3 c hc) ha, by rw [e1]; omega, fun _ => by rw [e1]; omega⟩
       exact Nat.le_trans (show z.length + 1 ≤ 5 by omega) (by decide)
     · refine ⟨rfl, _, _, _, _, rfl, g, by omega, fun _ => ?_⟩
       have hin : c ∈ z.cps.toList := Classical.byContradiction fun q => ha ((away_iff z c).mpr q)
       have := List.length_pos_of_mem hin
       rw [Array.length_toList] at this
       exact this
   · rintro σ H2 ⟨rfl, r, z, v1, v2, rfl, g, hz, hz1⟩
     exact ⟨_, rfl, _, rfl, (by show 2 ≤ sizeLine; decide), fun t ht => k t z r g (by omega) (fun q => hz1 (by omega)) ht⟩
def sp__law_menus : Sp := fun vs H Q _ => ∃ n : Int, vs = [.int n] ∧ ∀ (l : Addr) (m1 m2 m3 : Str), Mn m1 → Mn m2 → Mn m3 → H l = none → Q (.ref l) (upd H l (.lst [.str m1, .str m2, .str m3]))
theorem ok__law_menus : FnOk P w K mg base CX0 1 f__law_menus fd__law_menus ["_law_way"] sp__law_menus := by
 refine T.F__law_menus.ok sc__law_menus (fun vs H Q E h => ?_) (fun cdv A outer s H vs Q E hr h => ?_)
 · obtain ⟨n, rfl, _⟩ := h; rfl
 · have hu := hu_of hr
   have hu0 := hr.units0
   obtain ⟨n, rfl, k⟩ := h
   refine ⟨_, (pss_cons (ps_set (i := 1) sc__law_menus.nd rfl (by first | exact Or.inl rfl | exact Or.inr rfl) pe_str)
     (pss_cons (ps_if (pt_cmpR op_eq (pv 0) pe_int (nomark _)) (pss_one (ps_ret (pe_lst (pa_cons pe_str (pa_cons pe_str (pa_cons pe_str pa_nil)))))) pss_nil)
     (pss_cons (ps_if (pt_cmpR op_eq (pv 0) pe_int (nomark _)) (pss_one (ps_ret (pe_lst (pa_cons pe_str (pa_cons pe_str (pa_cons pe_str pa_nil)))))) pss_nil)
     (pss_one (ps_ret (pe_lst (pa_cons (pv 1) (pa_cons (pv 1) (pa_cons (pv 1) pa_nil))))))))), ?_⟩
   refine ⟨_, rfl, rfl, _, rfl, ?_⟩
   refine ite2 (fun _ => ?_) (fun _ => ?_)
   · exact ⟨by decide, fun l hl => k l _ _ _ (by decide +kernel) (by decide +kernel) (by decide +kernel) hl⟩
   · refine ⟨_, rfl, rfl, _, rfl, ?_⟩
     refine ite2 (fun _ => ?_) (fun _ => ?_)
     · exact ⟨by decide, fun l hl => k l _ _ _ (by decide +kernel) (by decide +kernel) (by decide +kernel) hl⟩
     · exact ⟨_, rfl, _, rfl, _, rfl, by decide, fun l hl => k l _ _ _ (by decide +kernel) (by decide +kernel) (by decide +kernel) hl⟩
def sp__law_told : Sp := fun vs H Q _ => ∃ c : Int, vs = [.int c] ∧ ∀ (t : Addr) (p q f : Str) (b1 b2 b3 b4 : Bool) (H' : Hp), Gd p q f → H t = none → H' t = some (.tup (seven p q f b1 b2 b3 b4)) → Same H H' → Q (.ref t) H'
theorem ok__law_told : FnOk P w K mg base CX0 3 f__law_told fd__law_told ["_law_cell"] sp__law_told := by
 have G__law_menus : FnOk P w K mg base CX0 1 f__law_menus fd__law_menus ["_law_way"] sp__law_menus := ok__law_menus T
 have G__law_number : FnOk P w K mg base CX0 2 f__law_number fd__law_number ["_law_cell", "_law_salt"] sp__law_number := ok__law_number T
 have G__law_some : FnOk P w K mg base CX0 1 f__law_some fd__law_some ["_law_number_here", "_law_many", "_law_menu"] sp__law_some := ok__law_some T
 refine T.F__law_told.ok sc__law_told (fun vs H Q E h => ?_) (fun cdv A outer s H vs Q E hr h => ?_)
 · obtain ⟨c, rfl, _⟩ := h; rfl
 · have hu := hu_of hr
   have hu0 := hr.units0
   obtain ⟨c, rfl, k⟩ := h
   refine ⟨_, (pss_cons (ps_set (i := 1) sc__law_told.nd rfl (by first | exact Or.inl rfl | exact Or.inr rfl) (pe_call (k := 2) G__law_number (hr.mono (by decide)) rfl T.g__law_number T.F__law_number.kp T.b__law_number .nil pass0 (pa_cons (pv 0) (pa_cons pe_int pa_nil))))
     (pss_cons (ps_set (i := 2) sc__law_told.nd rfl (by first | exact Or.inl rfl | exact Or.inr rfl) (pe_op op_mod (pv 1) pe_int))
     (pss_cons (ps_set (i := 3) sc__law_told.nd rfl (by first | exact Or.inl rfl | exact Or.inr rfl) (pe_lst (pa_cons (pe_op op_add pe_int (pe_op op_mod (pe_op op_fdiv (pv 1) pe_int) pe_int)) (pa_cons (pe_op op_mod (pe_op op_fdiv (pv 1) pe_int) pe_int) (pa_cons (pe_op op_mod (pe_op op_fdiv (pv 1) pe_int) pe_int) pa_nil)))))
     (pss_cons (ps_set (i := 4) sc__law_told.nd rfl (by first | exact Or.inl rfl | exact Or.inr rfl) (pe_call (k := 1) G__law_menus (hr.mono (by decide)) rfl T.g__law_menus T.F__law_menus.kp T.b__law_menus .nil pass0 (pa_cons (pe_op op_mod (pe_op op_fdiv (pv 1) pe_int) pe_int) pa_nil)))
     (pss_cons (ps_asg (pe_call (k := 1) G__law_some (hr.mono (by decide)) rfl T.g__law_some T.F__law_some.kp T.b__law_some .nil pass0 (pa_cons (pe_op op_fdiv (pv 1) pe_int) (pa_cons (pe_ix (ixK_list K rfl) (pv 3) pe_int (fun _ _ => rfl)) (pa_cons (pe_ix (ixK_list K rfl) (pv 4) pe_int (fun _ _ => rfl)) pa_nil)))) (pgK_tup K rfl 2 rfl (pgs_cons (pg_name (i := 5) sc__law_told.nd rfl (by first | exact Or.inl rfl | exact Or.inr rfl)) (pgs_cons (pg_name (i := 1) sc__law_told.nd rfl (by first | exact Or.inl rfl | exact Or.inr rfl)) pgs_nil))))
     (pss_cons (ps_asg (pe_call (k := 1) G__law_some (hr.mono (by decide)) rfl T.g__law_some T.F__law_some.kp T.b__law_some .nil pass0 (pa_cons (pv 1) (pa_cons (pe_ix (ixK_list K rfl) (pv 3) pe_int (fun _ _ => rfl)) (pa_cons (pe_ix (ixK_list K rfl) (pv 4) pe_int (fun _ _ => rfl)) pa_nil)))) (pgK_tup K rfl 2 rfl (pgs_cons (pg_name (i := 6) sc__law_told.nd rfl (by first | exact Or.inl rfl | exact Or.inr rfl)) (pgs_cons (pg_name (i := 1) sc__law_told.nd rfl (by first | exact Or.inl rfl | exact Or.inr rfl)) pgs_nil))))
     (pss_cons (ps_asg (pe_call (k := 1) G__law_some (hr.mono (by decide)) rfl T.g__law_some T.F__law_some.kp T.b__law_some .nil pass0 (pa_cons (pv 1) (pa_cons (pe_ix (ixK_list K rfl) (pv 3) pe_int (fun _ _ => rfl)) (pa_cons (pe_ix (ixK_list K rfl) (pv 4) pe_int (fun _ _ => rfl)) pa_nil)))) (pgK_tup K rfl 2 rfl (pgs_cons (pg_name (i := 7) sc__law_told.nd rfl (by first | exact Or.inl rfl | exact Or.inr rfl)) (pgs_cons (pg_name (i := 1) sc__law_told.nd rfl (by first | exact Or.inl rfl | exact Or.inr rfl)) pgs_nil))))
     (pss_cons (ps_set (i := 8) sc__law_told.nd rfl (by first | exact Or.inl rfl | exact Or.inr rfl) (pe_lst (pa_cons (pe_cmpR op_eq (pe_op op_mod (pv 2) pe_int) pe_int (nomark _)) (pa_cons (pe_cmpR op_eq (pe_op op_mod (pe_op op_fdiv (pv 2) pe_int) pe_int) pe_int (nomark _)) (pa_cons (pe_cmpR op_eq (pe_op op_mod (pe_op op_fdiv (pv 2) pe_int) pe_int) pe_int (nomark _)) (pa_cons (pe_cmpR op_eq (pe_op op_mod (pe_op op_fdiv (pv 2) pe_int) pe_int) pe_int (nomark _)) pa_nil))))))
     (pss_one (ps_ret (pe_tup (pa_cons (pv 5) (pa_cons (pv 6) (pa_cons (pv 7) (pa_cons (pe_ix (ixK_list K rfl) (pv 8) pe_int (fun _ _ => rfl)) (pa_cons (pe_ix (ixK_list K rfl) (pv 8) pe_int (fun _ _ => rfl)) (pa_cons (pe_ix (ixK_list K rfl) (pv 8) pe_int (fun _ _ => rfl)) (pa_cons (pe_ix (ixK_list K rfl) (pv 8) pe_int (fun _ _ => rfl)) pa_nil)))))))))))))))))), ?_⟩
   refine ⟨_, rfl, _, _, rfl, by decide, by decide, fun n => ?_⟩
   refine ⟨_, rfl, _, _, rfl, rfl, (by show (0 : Int) < 16; decide), ?_⟩
   refine ⟨_, rfl, _, _, rfl, rfl, ⟨by decide, by decide⟩, _, _, rfl, rfl, (by show (0 : Int) < 3; decide), _, _, rfl, rfl, _, rfl, _, _, rfl, rfl, ⟨by decide, by decide⟩, _, _, rfl, rfl, (by show (0 : Int) < 3; decide), _, rfl, _, _, rfl, rfl, ⟨by decide, by decide⟩, _, _, rfl, rfl, (by show (0 : Int) < 3; decide), (by show 3 ≤ sizeLine; decide), fun l hl => ?_⟩
   have m1 := Int.emod_nonneg (n / 16) (show (3 : Int) ≠ 0 by decide)
   have m1' := Int.emod_lt_of_pos (n / 16) (show (0 : Int) < 3 by decide)
   have m2 := Int.emod_nonneg (n / 48) (show (3 : Int) ≠ 0 by decide)
   have m2' := Int.emod_lt_of_pos (n / 48) (show (0 : Int) < 3 by decide)
   have m3 := Int.emod_nonneg (n / 144) (show (3 : Int) ≠ 0 by decide)
   have m3' := Int.emod_lt_of_pos (n / 144) (show (0 : Int) < 3 by decide)
   have h1 : (upd H l (.lst [.int (1 + n / 16 % 3), .int (n / 48 % 3), .int (n / 144 % 3)])) l = some (.lst [.int (1 + n / 16 % 3), .int (n / 48 % 3), .int (n / 144 % 3)]) := upd_same
   have s1 : Same H (upd H l (.lst [.int (1 + n / 16 % 3), .int (n / 48 % 3), .int (n / 144 % 3)])) := same_new hl
   generalize upd H l (.lst [.int (1 + n / 16 % 3), .int (n / 48 % 3), .int (n / 144 % 3)]) = H1 at h1 s1 ⊢
   refine ⟨_, rfl, _, _, rfl, rfl, ⟨by decide, by decide⟩, _, _, rfl, rfl, (by show (0 : Int) < 3; decide), _, rfl, fun l2 e1 e2 e3 g1 g2 g3 hl2 => ?_⟩
   have h2 : (upd H1 l2 (.lst [.str e1, .str e2, .str e3])) l2 = some (.lst [.str e1, .str e2, .str e3]) := upd_same
   have s2 : Same H1 (upd H1 l2 (.lst [.str e1, .str e2, .str e3])) := same_new hl2
   generalize upd H1 l2 (.lst [.str e1, .str e2, .str e3]) = H2 at h2 s2 ⊢
   have h12 := s2 _ _ h1
   refine ⟨_, rfl, _, _, rfl, rfl, ⟨by decide, by decide⟩, _, rfl, l, _, _, _, rfl, rfl, SqL.of h12, rfl, _, rfl, l2, _, _, _, rfl, rfl, SqL.of h2, rfl, _, _, _, rfl, g1, by omega, by omega, fun t1 p r1 gp lp lp1 ht1 => ?_⟩
   refine ⟨t1, _, rfl, SqT.of upd_same, rfl, _, _, rfl, _, _, rfl, rfl, ?_⟩
   have s3 : Same H2 (upd H2 t1 (.tup [.str p, .int r1])) := same_new ht1
   generalize upd H2 t1 (.tup [.str p, .int r1]) = H3 at s3 ⊢
   refine ⟨_, rfl, _, rfl, l, _, _, _, rfl, rfl, SqL.of (s3 _ _ h12), rfl, _, rfl, l2, _, _, _, rfl, rfl, SqL.of (s3 _ _ h2), rfl, _, _, _, rfl, g2, by omega, by omega, fun t2 q r2 gq lq lq1 ht2 => ?_⟩
   refine ⟨t2, _, rfl, SqT.of upd_same, rfl, _, _, rfl, _, _, rfl, rfl, ?_⟩
   have s4 : Same H3 (upd H3 t2 (.tup [.str q, .int r2])) := same_new ht2
   generalize upd H3 t2 (.tup [.str q, .int r2]) = H4 at s4 ⊢
   refine ⟨_, rfl, _, rfl, l, _, _, _, rfl, rfl, SqL.of (s4 _ _ (s3 _ _ h12)), rfl, _, rfl, l2, _, _, _, rfl, rfl, SqL.of (s4 _ _ (s3 _ _ h2)), rfl, _, _, _, rfl, g3, by omega, by omega, fun t3 f r3 gf lf lf1 ht3 => ?_⟩
   refine ⟨t3, _, rfl, SqT.of upd_same, rfl, _, _, rfl, _, _, rfl, rfl, ?_⟩
   have s5 : Same H4 (upd H4 t3 (.tup [.str f, .int r3])) := same_new ht3
   generalize upd H4 t3 (.tup [.str f, .int r3]) = H5 at s5 ⊢
   refine ⟨_, rfl, _, _, rfl, rfl, (by show (0 : Int) < 2; decide), rfl, _, rfl, _, _, rfl, rfl, ⟨by decide, by decide⟩, _, _, rfl, rfl, (by show (0 : Int) < 2; decide), rfl, _, rfl, _, _, rfl, rfl, ⟨by decide, by decide⟩, _, _, rfl, rfl, (by show (0 : Int) < 2; decide), rfl, _, rfl, _, _, rfl, rfl, ⟨by decide, by decide⟩, _, _, rfl, rfl, (by show (0 : Int) < 2; decide), rfl, (by show 4 ≤ sizeLine; decide), fun l6 hl6 => ?_⟩
   have s6 := same_new (o := HO.lst [.bl (decide (V.int (n % 16 % 2) = V.int 1)), .bl (decide (V.int (n % 16 / 2 % 2) = V.int 1)), .bl (decide (V.int (n % 16 / 4 % 2) = V.int 1)), .bl (decide (V.int (n % 16 / 8 % 2) = V.int 1))]) hl6
   refine ⟨_, rfl, _, rfl, _, rfl, _, rfl, l6, _, _, _, rfl, rfl, SqL.of upd_same, rfl, _, rfl, l6, _, _, _, rfl, rfl, SqL.of upd_same, rfl, _, rfl, l6, _, _, _, rfl, rfl, SqL.of upd_same, rfl, _, rfl, l6, _, _, _, rfl, rfl, SqL.of upd_same, rfl, (by show 7 ≤ sizeLine; decide), fun t ht => ?_⟩
   have sall := ((((s1.trans s2).trans s3).trans s4).trans s5).trans s6
   exact k t p q f _ _ _ _ _ ⟨gp, gq, gf, lp1 (by omega), by omega, by omega, by omega⟩ (sall.free ht) upd_same (sall.trans (same_new ht))
def sp__law_made (C : Addr) : Sp := fun vs H Q _ => ∃ (t : Addr) (p q f : Str) (b1 b2 b3 b4 : Bool), vs = [.ref t] ∧ H t = some (.tup (seven p q f b1 b2 b3 b4)) ∧ Gd p q f ∧ ∀ (x dx : Addr) (H' : Hp), H x = none → H' x = some (.ins C dx (dfl p q f b1 b2 b3 b4)) → Same H H' → Q (.ref x) H'
theorem ok__law_made : FnOk P w K mg base CX0 5 f__law_made fd__law_made ["_law_told_here"] (sp__law_made C_Dialect) := by
 have G_Dialect___init__ : FnOk P w K mg base CX0 3 f_Dialect___init__ fd_Dialect___init__ ["self", "parts", "quotes", "frees", "twin", "wide", "thin", "stray"] (sp_Dialect___init__ C_Dialect) := ok_Dialect___init__ T
 refine T.F__law_made.ok sc__law_made (fun vs H Q E h => ?_) (fun cdv A outer s H vs Q E hr h => ?_)
 · obtain ⟨t, p, q, f, b1, b2, b3, b4, rfl, _⟩ := h; rfl
 · have hu := hu_of hr
   have hu0 := hr.units0
   obtain ⟨t, p, q, f, b1, b2, b3, b4, rfl, ht, g, k⟩ := h
   have hS : SqT K H t (seven p q f b1 b2 b3 b4) := SqT.of ht
   refine ⟨_, (pss_one (ps_ret (pe_make (k := 3) T.M_Dialect G_Dialect___init__ (hr.mono (by decide)) rfl T.g_Dialect T.b_Dialect___init__ .nil pass0 (pa_cons (pe_ix (ixK_tup K rfl) (pv 0) pe_int (fun _ _ => rfl)) (pa_cons (pe_ix (ixK_tup K rfl) (pv 0) pe_int (fun _ _ => rfl)) (pa_cons (pe_ix (ixK_tup K rfl) (pv 0) pe_int (fun _ _ => rfl)) (pa_cons (pe_ix (ixK_tup K rfl) (pv 0) pe_int (fun _ _ => rfl)) (pa_cons (pe_ix (ixK_tup K rfl) (pv 0) pe_int (fun _ _ => rfl)) (pa_cons (pe_ix (ixK_tup K rfl) (pv 0) pe_int (fun _ _ => rfl)) (pa_cons (pe_ix (ixK_tup K rfl) (pv 0) pe_int (fun _ _ => rfl)) pa_nil)))))))))), ?_⟩
   refine ⟨_, rfl, t, _, _, _, rfl, rfl, hS, rfl, _, rfl, t, _, _, _, rfl, rfl, hS, rfl, _, rfl, t, _, _, _, rfl, rfl, hS, rfl, _, rfl, t, _, _, _, rfl, rfl, hS, rfl, _, rfl, t, _, _, _, rfl, rfl, hS, rfl, _, rfl, t, _, _, _, rfl, rfl, hS, rfl, _, rfl, t, _, _, _, rfl, rfl, hS, rfl, fun x dx hx hdx ne => ?_⟩
   refine ⟨x, dx, p, q, f, b1, b2, b3, b4, rfl, upd_same, g, fun H2 h2 kp => ⟨rfl, k x dx H2 hx h2 fun b o e => kp b o ?_ (ne_of_none e hx)⟩⟩
   rw [upd_ne (ne_of_none e hx), upd_ne (ne_of_none e hdx)]
   exact e
def sp__law_row (K : PySem.W.Frag) : Sp := fun vs H Q _ => ∃ (t : Addr) (c sa m : Int) (p q f : Str) (b1 b2 b3 b4 : Bool), vs = [.ref t, .int c, .int sa, .int m] ∧ H t = some (.tup (seven p q f b1 b2 b3 b4)) ∧ Gd p q f ∧ 0 ≤ sa ∧ sa < 60000 ∧ 0 ≤ m ∧ m ≤ 59 ∧ ∀ (l : Addr) (r : List Str) H', H l = none → H' l = some (.lst (r.map V.str)) → RowOk r → (lens r).sum ≤ 60 → Same H H' → Q (.ref l) H'
theorem ok__law_row : FnOk P w K mg base CX0 3 f__law_row fd__law_row ["_law_told_here", "_law_cell", "_law_salt", "_law_most"] (sp__law_row K) := by
 have G__law_number : FnOk P w K mg base CX0 2 f__law_number fd__law_number ["_law_cell", "_law_salt"] sp__law_number := ok__law_number T
 refine T.F__law_row.ok sc__law_row (fun vs H Q E h => ?_) (fun cdv A outer s H vs Q E hr h => ?_)
 · obtain ⟨t, c, sa, m, p, q, f, b1, b2, b3, b4, rfl, _⟩ := h; rfl
 · have hu := hu_of hr
   have hu0 := hr.units0
   obtain ⟨t, c, sa, m, p, q, f, b1, b2, b3, b4, rfl, ht, g, hs0, hs1, hm0, hm1, k⟩ := h
   have hp3 := g.p3; have hq2 := g.q2; have hf2 := g.f2
   have hS : SqT K H t (seven p q f b1 b2 b3 b4) := SqT.of ht
   refine ⟨_, (pss_cons (ps_set (i := 4) sc__law_row.nd rfl (by first | exact Or.inl rfl | exact Or.inr rfl) (pe_call (k := 2) G__law_number (hr.mono (by decide)) rfl T.g__law_number T.F__law_number.kp T.b__law_number .nil pass0 (pa_cons (pv 1) (pa_cons (pv 2) pa_nil))))
     (pss_cons (ps_set (i := 5) sc__law_row.nd rfl (by first | exact Or.inl rfl | exact Or.inr rfl) (pe_op op_mod (pv 4) (pe_op op_add (pv 3) pe_int)))
     (pss_cons (ps_set (i := 4) sc__law_row.nd rfl (by first | exact Or.inl rfl | exact Or.inr rfl) (pe_op op_fdiv (pv 4) (pe_op op_add (pv 3) pe_int)))
     (pss_cons (ps_set (i := 6) sc__law_row.nd rfl (by first | exact Or.inl rfl | exact Or.inr rfl) (pe_op op_add_str (pe_op op_add_str (pe_op op_add_str (pe_ix (ixK_tup K rfl) (pv 0) pe_int (fun _ _ => rfl)) (pe_ix (ixK_tup K rfl) (pv 0) pe_int (fun _ _ => rfl))) (pe_ix (ixK_tup K rfl) (pv 0) pe_int (fun _ _ => rfl))) pe_str))
     (pss_cons (ps_set (i := 7) sc__law_row.nd rfl (by first | exact Or.inl rfl | exact Or.inr rfl) (pe_lst pa_nil))
     (pss_cons (ps_set (i := 8) sc__law_row.nd rfl (by first | exact Or.inl rfl | exact Or.inr rfl) pe_str)
     (pss_cons (ps_for PassesOwn.never rfl (pi_range1 rfl T.no_range (pa_cons (pv 5) pa_nil)) (pg_name (i := 9) sc__law_row.nd rfl (by first | exact Or.inl rfl | exact Or.inr rfl))
     (pss_cons (ps_set (i := 10) sc__law_row.nd rfl (by first | exact Or.inl rfl | exact Or.inr rfl) (pe_op op_mod (pv 4) (pe_op op_add (pe_callB call_len_str rfl T.no_len (by decide +kernel) (pa_cons (pv 6) pa_nil)) pe_int)))
     (pss_cons (ps_set (i := 4) sc__law_row.nd rfl (by first | exact Or.inl rfl | exact Or.inr rfl) (pe_op op_fdiv (pv 4) (pe_op op_add (pe_callB call_len_str rfl T.no_len (by decide +kernel) (pa_cons (pv 6) pa_nil)) pe_int)))
     (pss_one (ps_if (pt_cmpR op_lt (pv 10) (pe_callB call_len_str rfl T.no_len (by decide +kernel) (pa_cons (pv 6) pa_nil)) (nomark _)) (pss_one (ps_set (i := 8) sc__law_row.nd rfl (by first | exact Or.inl rfl | exact Or.inr rfl) (pe_op op_add_str (pv 8) (pe_ix ix_str (pv 6) (pv 10) (fun _ _ => rfl))))) (pss_cons (ps_set (i := 7) sc__law_row.nd rfl (by first | exact Or.inl rfl | exact Or.inr rfl) (pe_op op_cat (pv 7) (pe_lst (pa_cons (pv 8) pa_nil))))
     (pss_one (ps_set (i := 8) sc__law_row.nd rfl (by first | exact Or.inl rfl | exact Or.inr rfl) pe_str))))))))
     (pss_one (ps_ret (pe_slice (slK_list K rfl) (pe_op op_cat (pv 7) (pe_lst (pa_cons (pv 8) pa_nil))) po_none (po_some pe_int))))))))))), ?_⟩
   refine ⟨_, rfl, _, rfl, _, _, rfl, hs0, hs1, fun nn => ?_⟩
   have a0 := Int.emod_nonneg nn (show m + 1 ≠ 0 by omega)
   have a1 := Int.emod_lt_of_pos nn (show (0 : Int) < m + 1 by omega)
   refine ⟨_, rfl, _, rfl, _, _, rfl, rfl, _, _, rfl, rfl, (by show (0 : Int) < m + 1; omega), ?_⟩
   refine ⟨_, rfl, _, rfl, _, _, rfl, rfl, _, _, rfl, rfl, ⟨by show (0 : Int) < m + 1; omega, by show m + 1 < 1073741824; omega⟩, ?_⟩
   refine ⟨_, rfl, t, _, _, _, rfl, rfl, hS, rfl, _, rfl, t, _, _, _, rfl, rfl, hS, rfl, _, _, rfl, rfl, Nat.le_trans (show p.length + q.length ≤ 5 by omega) (by decide), _, rfl, t, _, _, _, rfl, rfl, hS, rfl, _, _, rfl, rfl, ?_, _, _, rfl, rfl, ?_, ?_⟩
   · rw [app_len]; exact Nat.le_trans (show p.length + q.length + f.length ≤ 7 by omega) (by decide)
   · rw [app_len, app_len]
     have e4 : (Str.ofString "\n ab").length = 4 := by decide +kernel
     exact Nat.le_trans (show p.length + q.length + f.length + (Str.ofString "\n ab").length ≤ 20 by omega) (by decide)
   have hev : (((p ++ q) ++ f) ++ Str.ofString "\n ab").length ≤ 11 ∧ ∀ d ∈ (((p ++ q) ++ f) ++ Str.ofString "\n ab").cps.toList, d = 10 ∨ Pn d := by
     have e4 : (Str.ofString "\n ab").length = 4 := by decide +kernel
     refine ⟨by rw [app_len, app_len, app_len]; omega, fun d hd => ?_⟩
     rw [app_listS, app_listS, app_listS] at hd
     have e5 : ∀ d ∈ (Str.ofString "\n ab").cps.toList, d = 10 ∨ Pn d := by decide +kernel
     rcases List.mem_append.mp hd with hd | hd
     · rcases List.mem_append.mp hd with hd | hd
       · rcases List.mem_append.mp hd with hd | hd
         · exact .inr (g.gp.pr d hd)
         · exact .inr (g.gq.pr d hd)
       · exact .inr (g.gf.pr d hd)
     · exact e5 d hd
   generalize ((p ++ q) ++ f) ++ Str.ofString "\n ab" = ev at hev ⊢
   obtain ⟨hev1, hev2⟩ := hev
   have hevl : ev.length ≤ sizeLine := Nat.le_trans hev1 (by decide)
    
   refine ⟨by decide, fun lr0 hlr0 => ?_⟩
   have z12 := same_new (o := HO.lst []) hlr0
   have w2 := upd_same (H := H) (a := lr0) (o := HO.lst [])
   generalize upd H lr0 (.lst []) = H0 at z12 w2 ⊢
   obtain ⟨many, em⟩ : ∃ many : Int, many = nn % (m + 1) := ⟨_, rfl⟩
   dsimp only [gName]
   rw [← em]
   rw [← em] at a0 a1
   refine ⟨_, rfl, many, rfl, by omega, by omega, ?_⟩
   refine for_range (fun i σ J => Same H J ∧ ∃ (nn : Int) (lr : Addr) (z : Str) (r : List Str) (v1 v2 : Option V), σ = [some (.ref t), some (.int c), some (.int sa), some (.int m), some (.int nn), some (.int many), some (.str ev), some (.ref lr), some (.str z), v1, v2] ∧ J lr = some (.lst (r.map V.str)) ∧ (∀ q ∈ r, cellOk q) ∧ cellOk z ∧ r.length + (lens r).sum + z.length ≤ i) ⟨z12, _, lr0, _, [], none, none, rfl, w2, (fun _ z => nomatch z), cellOk_nil, by rw [em_len]; exact Nat.le_refl _⟩ ?_ ?_
   · rintro i σ J hi ⟨sJ, nn, lr, z, r, v1, v2, rfl, hr, hrc, hz, htot⟩
     have hi60 : i < 59 := by omega
     have e0 := Int.emod_nonneg nn (show (ev.length : Int) + 2 ≠ 0 by omega)
     have e1 := Int.emod_lt_of_pos nn (show (0 : Int) < (ev.length : Int) + 2 by omega)
     refine ⟨_, rfl, _, rfl, ev, rfl, hevl, _, _, rfl, rfl, _, _, rfl, rfl, (by show (0 : Int) < (ev.length : Int) + 2; omega), ?_⟩
     refine ⟨_, rfl, _, rfl, ev, rfl, hevl, _, _, rfl, rfl, _, _, rfl, rfl, ⟨by show (0 : Int) < (ev.length : Int) + 2; omega, by show (ev.length : Int) + 2 < 1073741824; omega⟩, ?_⟩
     obtain ⟨way, ew⟩ : ∃ way : Int, way = nn % ((ev.length : Int) + 2) := ⟨_, rfl⟩
     dsimp only [gName]
     rw [← ew]
     rw [← ew] at e0 e1
     refine ⟨_, rfl, _, rfl, ev, rfl, hevl, _, _, rfl, rfl, _, rfl, ite2 (fun hw => ?_) (fun hw => ?_)⟩
     · have hw : way < ev.length := of_decide_eq_true hw
       have hlen : ev.cps.toList.length = ev.length := by rw [Array.length_toList]; rfl
       obtain ⟨d, ed, hd⟩ := at_int (xs := ev.cps.toList) e0 (by rw [hlen]; exact hw)
       refine ⟨_, rfl, _, rfl, _, rfl, ev, _, d, rfl, rfl, hevl, ed, _, _, rfl, rfl, Nat.le_trans (show z.length + 1 ≤ 100 by omega) (by decide), ?_⟩
       exact ⟨sJ, _, lr, _, r, _, _, rfl, hr, hrc, cellOk_snoc hz (hev2 d hd), by rw [app_len]; show _ + (z.length + 1) ≤ i + 1; omega⟩
     · refine ⟨_, rfl, _, rfl, (by show 1 ≤ sizeLine; decide), fun u hu5 => ?_⟩
       have su := same_new (o := HO.lst [.str z]) hu5
       refine ⟨lr, u, _, _, rfl, rfl, su _ _ hr, upd_same, ?_, fun w hw5 => ?_⟩
       · rw [List.length_map]; exact Nat.le_trans (show r.length + 1 ≤ 100 by omega) (by decide)
       have sw := same_new (o := HO.lst (r.map V.str ++ [.str z])) hw5
       have suw := su.trans sw
       refine ⟨sJ.trans suw, _, w, Str.ofString "", r ++ [z], _, _, rfl, ?_, ?_, cellOk_nil, ?_⟩
       · rw [List.map_append]; exact upd_same
       · intro q hq
         rcases List.mem_append.mp hq with hq | hq
         · exact hrc q hq
         · rw [List.mem_singleton.mp hq]; exact hz
       · rw [lens_snoc, em_len, List.length_append, List.length_singleton]; omega
   · rintro σ J ⟨sJ, nn, lr, z, r, v1, v2, rfl, hr, hrc, hz, htot⟩
     refine ⟨_, rfl, _, rfl, (by show 1 ≤ sizeLine; decide), fun u hu5 => ?_⟩
     have su := same_new (o := HO.lst [.str z]) hu5
     refine ⟨lr, u, _, _, rfl, rfl, su _ _ hr, upd_same, ?_, fun w hw5 => ?_⟩
     · rw [List.length_map]; exact Nat.le_trans (show r.length + 1 ≤ 100 by omega) (by decide)
     have sw := same_new (o := HO.lst (r.map V.str ++ [.str z])) hw5
     have suw := su.trans sw
     have hw2 : (upd (upd J u (.lst [.str z])) w (.lst (r.map V.str ++ [.str z]))) w = some (.lst ((r ++ [z]).map V.str)) := by rw [List.map_append]; exact upd_same
     generalize upd (upd J u (.lst [.str z])) w (.lst (r.map V.str ++ [.str z])) = J3 at suw hw2 ⊢
     refine ⟨_, rfl, _, _, rfl, SqL.of hw2, fun l4 hl4 => ?_⟩
     rw [cut_20, ← List.map_take]
     refine k l4 _ _ ((sJ.trans suw).free hl4) upd_same ⟨?_, ?_, ?_⟩ ?_ ((sJ.trans suw).trans (same_new hl4))
     · rw [List.length_take, List.length_append, List.length_singleton]; omega
     · rw [List.length_take]; omega
     · intro q hq
       rcases List.mem_append.mp (List.mem_of_mem_take hq) with hq | hq
       · exact hrc q hq
       · rw [List.mem_singleton.mp hq]; exact hz
     · have h1 := lens_take (r ++ [z]) 20
       rw [lens_snoc] at h1
       omega
def sp__law_written (K : PySem.W.Frag) (C : Addr) : Sp := fun vs H Q _ => ∃ (x dx a : Addr) (xs : List V) (t : List (List Str)) (p q f : Str) (b1 b2 b3 b4 : Bool), vs = [.ref x, .ref a] ∧ H x = some (.ins C dx (dfl p q f b1 b2 b3 b4)) ∧ Gd p q f ∧ H a = some (.lst xs) ∧ Paired (RelRow H) xs t ∧ TabOk t ∧ ∀ tf H', Wrn p q f b1 b2 b3 b4 H' tf t → Same H H' → Q (.ref tf) H'
theorem ok__law_written : FnOk P w K mg base CX0 13 f__law_written fd__law_written ["_law_made_here", "_law_table"] (sp__law_written K C_Dialect) := by
 have G_shortest : FnOk P w K mg base (CXe P w) 12 f_shortest fd_shortest ["dialect", "table"] (sp_shortest P w K C_Dialect C_Turn C_Marker C_Writer C_NoWriting) := ok_shortest T
 refine T.F__law_written.ok sc__law_written (fun vs H Q E h => ?_) (fun cdv A outer s H vs Q E hr h => ?_)
 · obtain ⟨x, dx, a, xs, t, p, q, f, b1, b2, b3, b4, rfl, _⟩ := h; rfl
 · have hu := hu_of hr
   have hu0 := hr.units0
   obtain ⟨x, dx, a, xs, t, p, q, f, b1, b2, b3, b4, rfl, hx, g, ha, pr, tok, k⟩ := h
   refine ⟨_, (pss_cons (ps_tryX rfl rfl (pssx_one (psx_set (i := 2) sc__law_written.nd rfl (by first | exact Or.inl rfl | exact Or.inr rfl) (pex_call (k := 12) G_shortest (hr.mono (by decide)) rfl T.g_shortest T.F_shortest.kp T.b_shortest .nil (pa_cons (pv 0) (pa_cons (pv 1) pa_nil))))) (ph_as (i := 3) rfl rfl T.g_NoWriting T.x_NoWriting (.inr ⟨_, _, rfl, T.x_DialectError⟩) sc__law_written.nd rfl rfl (fun ea => (pss_one (ps_ret (pe_tup (pa_cons pe_str (pa_cons (pe_xget T.x_NoWriting (.inr ⟨_, _, rfl, T.x_DialectError⟩) T.xa_NoWriting_row (pv 3) rfl) (pa_cons (pe_xget T.x_NoWriting (.inr ⟨_, _, rfl, T.x_DialectError⟩) T.xa_NoWriting_cell (pv 3) rfl) pa_nil))))))) ph_nil) pss_nil)
     (pss_one (ps_ret (pe_tup (pa_cons pe_str (pa_cons (pv 2) pa_nil)))))), ?_⟩
   refine ⟨_, rfl, _, rfl, x, dx, a, xs, t, p, q, f, b1, b2, b3, b4, rfl, hx, g, ha, pr, tok, fun cs H1 hrd hls hcl hok s1 => ?_, fun n hW hM d H1 hd hd1 s1 ea hea => ?_⟩
   · refine ⟨_, rfl, (by show 2 ≤ sizeLine; decide), fun tf htf => ?_⟩
     refine k tf _ (.inl ⟨_, upd_same, ⟨?_, ?_, ?_, ?_⟩⟩) (s1.trans (same_new htf))
     · rw [join_sgs]; exact hrd
     · rw [join_len]; exact hls
     · rw [join_len]; exact hcl
     · intro c hc; rw [join_sgs] at hc; exact hok c hc
   have nde : d ≠ ea := fun q => by rw [q, hea] at hd1; cases hd1
   have hd2 := (upd_ne (o := xcO ea (.ref C_NoWriting) (some d)) nde).trans hd1
   have s2 := same_new (o := xcO ea (.ref C_NoWriting) (some d)) hea
   have he2 : (upd H1 ea (xcO ea (.ref C_NoWriting) (some d))) ea = some (xcO ea (.ref C_NoWriting) (some d)) := upd_same
   refine ⟨C_NoWriting, N_NoWriting, _, _, rfl, T.x_NoWriting, iteBt (by simp) ?_⟩
   generalize upd H1 ea (xcO ea (.ref C_NoWriting) (some d)) = H2 at hd2 s2 he2 ⊢
   refine ⟨_, rfl, ea, d, _, _, rfl, he2, hd2, nwF_row _ _, _, rfl, ea, d, _, _, rfl, he2, hd2, nwF_cell _ _, (by show 3 ≤ sizeLine; decide), fun tf htf => ?_⟩
   exact k tf _ (.inr ⟨n, upd_same, hW, hM⟩) ((s1.trans s2).trans (same_new htf))
def sp__law_first (K : PySem.W.Frag) (C : Addr) : Sp := fun vs H Q _ => ∃ (x dx a : Addr) (r : List Str) (p q f : Str) (b1 b2 b3 b4 : Bool), vs = [.ref x, .ref a] ∧ H x = some (.ins C dx (dfl p q f b1 b2 b3 b4)) ∧ Gd p q f ∧ H a = some (.lst (r.map V.str)) ∧ RowOk r ∧ (lens r).sum ≤ 100 ∧ (∀ H', (∀ i c, r[i]? = some c → CellW p q f b1 b2 b3 b4 c (tokAt r i)) → Same H H' → Q .non H') ∧ (∀ (i : Nat) c H', r[i]? = some c → (∀ j d, j < i → r[j]? = some d → CellW p q f b1 b2 b3 b4 d (tokAt r j)) → ¬ CellW p q f b1 b2 b3 b4 c (tokAt r i) → Same H H' → Q (.int i) H')
theorem ok__law_first : FnOk P w K mg base CX0 14 f__law_first fd__law_first ["_law_made_here", "_law_row_here"] (sp__law_first K C_Dialect) := by
 have G__law_written : FnOk P w K mg base CX0 13 f__law_written fd__law_written ["_law_made_here", "_law_table"] (sp__law_written K C_Dialect) := ok__law_written T
 refine T.F__law_first.ok sc__law_first (fun vs H Q E h => ?_) (fun cdv A outer s H vs Q E hr h => ?_)
 · obtain ⟨x, dx, a, r, p, q, f, b1, b2, b3, b4, rfl, _⟩ := h; rfl
 · have hu := hu_of hr
   have hu0 := hr.units0
   obtain ⟨x, dx, a, r, p, q, f, b1, b2, b3, b4, rfl, hx, g, ha, rok, hrs, k1, k2⟩ := h
   have hlo := rok.lo; have hhi := rok.hi
   have hml : (r.map V.str).length = r.length := List.length_map ..
   refine ⟨_, (pss_cons (ps_for PassesOwn.never rfl (pi_range1 rfl T.no_range (pa_cons (pe_callB (callK_len_seq K rfl) rfl T.no_len (by decide +kernel) (pa_cons (pv 1) pa_nil)) pa_nil)) (pg_name (i := 2) sc__law_first.nd rfl (by first | exact Or.inl rfl | exact Or.inr rfl))
     (pss_cons (ps_set (i := 3) sc__law_first.nd rfl (by first | exact Or.inl rfl | exact Or.inr rfl) (pe_lst (pa_cons (pe_ix (ixK_list K rfl) (pv 1) (pv 2) (fun _ _ => rfl)) (pa_cons pe_str pa_nil))))
     (pss_cons (ps_if (pt_cmpR op_eq (pv 2) (pe_op op_sub (pe_callB (callK_len_seq K rfl) rfl T.no_len (by decide +kernel) (pa_cons (pv 1) pa_nil)) pe_int) (nomark _)) (pss_one (ps_set (i := 3) sc__law_first.nd rfl (by first | exact Or.inl rfl | exact Or.inr rfl) (pe_lst (pa_cons (pe_ix (ixK_list K rfl) (pv 1) (pv 2) (fun _ _ => rfl)) pa_nil)))) pss_nil)
     (pss_one (ps_if (pt_cmpR op_eq (pe_ix (ixK_tup K rfl) (pe_call (k := 13) G__law_written (hr.mono (by decide)) rfl T.g__law_written T.F__law_written.kp T.b__law_written .nil pass0 (pa_cons (pv 0) (pa_cons (pe_lst (pa_cons (pv 3) pa_nil)) pa_nil))) pe_int (fun _ _ => rfl)) pe_str (nomark _)) (pss_one (ps_ret (pv 2))) pss_nil)))))
     (pss_one (ps_ret pe_non))), ?_⟩
   refine ⟨_, rfl, a, _, rfl, .inl (SqL.of ha), _, rfl, by omega, by omega, ?_⟩
   refine for_range (fun i σ J => Same H J ∧ (∀ j d, j < i → r[j]? = some d → CellW p q f b1 b2 b3 b4 d (tokAt r j)) ∧ ∃ v2 v3, σ = [some (.ref x), some (.ref a), v2, v3]) ⟨Same.refl _, (fun j d hj => absurd hj (Nat.not_lt_zero _)), _, _, rfl⟩ ?_ ?_
   · rintro i σ J hi ⟨sJ, hb, v2, v3, rfl⟩
     have hi : i < r.length := by omega
     obtain ⟨c, hc⟩ : ∃ c, r[i]? = some c := ⟨_, List.getElem?_eq_getElem hi⟩
     have hcm := List.mem_of_getElem? hc
     have hat : atI (r.map V.str) (0 + (i : Int)) = some (.str c) := by rw [Int.zero_add]; exact atI_nat (by rw [List.getElem?_map, hc]; rfl)
     have hcl := cell_len hcm
     have haJ := sJ _ _ ha; have hxJ := sJ _ _ hx
     dsimp only [gName]
     refine ⟨_, rfl, _, rfl, _, _, _, _, rfl, rfl, SqL.of haJ, hat, (by show (2 : Nat) ≤ sizeLine; decide), fun l1 hl1 => ?_⟩
     (have s1 := same_new (o := HO.lst [V.str c, V.str (Str.ofString "")]) hl1; have q1 := upd_same (H := J) (a := l1) (o := HO.lst [V.str c, V.str (Str.ofString "")]); generalize upd J l1 (HO.lst [V.str c, V.str (Str.ofString "")]) = J1 at s1 q1 ⊢)
     have haJ1 := s1 _ _ haJ
     dsimp only [gName]
     refine seq_split (t := tIfS _ _ _) (fun σ' G => Same J1 G ∧ ∃ (l : Addr) (r' : List Str), σ' = [some (.ref x), some (.ref a), some (.int (0 + (i : Int))), some (.ref l)] ∧ G l = some (.lst (r'.map V.str)) ∧ ((∃ s, RdT p q f b1 b2 b3 b4 (tokRow r') s) ↔ CellW p q f b1 b2 b3 b4 c (tokAt r i)) ∧ RowOk r' ∧ (lens r').sum ≤ 100) ?_ (fun go => ?_)
     rotate_left
     · refine ⟨_, rfl, _, rfl, _, _, rfl, .inl (SqL.of haJ1), _, _, rfl, rfl, rfl, _, rfl, rd2i (fun h1 => ?_) (fun h1 => ?_)⟩
       · have et : tokAt r i = endT := by unfold tokAt; rw [if_pos (by omega)]
         rw [et] at go
         refine ⟨_, rfl, _, rfl, _, _, _, _, rfl, rfl, SqL.of haJ1, hat, (by show (1 : Nat) ≤ sizeLine; decide), fun l2 hl2 => ?_⟩
         exact go _ _ ⟨same_new hl2, l2, [c], rfl, upd_same, one_wr, ⟨Nat.le_refl _, by show 1 ≤ 20; omega, fun d hd => by rw [List.mem_singleton.mp hd]; exact rok.ok c hcm⟩, by show c.length + 0 ≤ 100; omega⟩
       · have et : tokAt r i = partT := by unfold tokAt; rw [if_neg (by omega)]
         rw [et] at go
         refine go _ _ ⟨Same.refl _, l1, [c, Str.ofString ""], rfl, q1, two_wr g, ⟨by show 1 ≤ 2; omega, by show 2 ≤ 20; omega, fun d hd => ?_⟩, by show c.length + ((Str.ofString "").length + 0) ≤ 100; rw [em_len]; omega⟩
         rcases List.mem_cons.mp hd with z | z
         · rw [z]; exact rok.ok c hcm
         · rw [List.mem_singleton.mp z]; exact cellOk_nil
     rintro σ' G ⟨sG, l, r', rfl, hl, hiff, rok', hs'⟩
     have sJG := s1.trans sG
     refine ⟨_, rfl, _, rfl, (by show 1 ≤ sizeLine; decide), fun l3 hl3 => ?_⟩
     (have s3 := same_new (o := HO.lst [V.ref l]) hl3; have q3 := upd_same (H := G) (a := l3) (o := HO.lst [V.ref l]); generalize upd G l3 (HO.lst [V.ref l]) = G3 at s3 q3 ⊢)
     refine ⟨x, dx, l3, _, [r'], p, q, f, b1, b2, b3, b4, rfl, (sJG.trans s3) _ _ hxJ, g, q3, .cons ⟨l, rfl, s3 _ _ hl⟩ .nil, tabok1 rok' (by omega), fun tf G4 hw s4 => ?_⟩
     have s14 := sJ.trans ((sJG.trans s3).trans s4)
     rcases hw with ⟨F, hF, wF⟩ | ⟨n, hF, hn, hm⟩
     · have hcw := hiff.mp ⟨_, by have := wF.rd; rw [tokTab_one] at this; exact this⟩
       refine ⟨tf, _, _, _, rfl, rfl, SqT.of hF, rfl, rfl, _, rfl, iteBf (by decide +kernel) ⟨s14, fun j d hj hd => ?_, _, _, rfl⟩⟩
       by_cases hji : j = i
       · subst hji; rw [hc] at hd; cases hd; exact hcw
       · exact hb j d (by omega) hd
     · have hcw : ¬ CellW p q f b1 b2 b3 b4 c (tokAt r i) := fun z => by
         obtain ⟨s, hs⟩ := hiff.mpr z
         rw [tokTab_one] at hn
         exact hn s hs
       refine ⟨tf, _, _, _, rfl, rfl, SqT.of hF, rfl, rfl, _, rfl, iteBt (isS_self _) ⟨_, rfl, ?_⟩⟩
       rw [Int.zero_add]
       exact k2 i c G4 hc hb hcw s14
   · rintro σ J ⟨sJ, hb, v2, v3, rfl⟩
     refine k1 J (fun i c hc => hb i c ?_ hc) sJ
     have := (List.getElem?_eq_some_iff.mp hc).1
     omega
def sp__law_right (K : PySem.W.Frag) (C : Addr) : Sp := fun vs H Q _ => ∃ (x dx a : Addr) (r : List Str) (p q f : Str) (b1 b2 b3 b4 : Bool), vs = [.ref x, .ref a] ∧ H x = some (.ins C dx (dfl p q f b1 b2 b3 b4)) ∧ Gd p q f ∧ H a = some (.lst (r.map V.str)) ∧ RowOk r ∧ (lens r).sum ≤ 100 ∧ ∀ H', Same H H' → Q (.bl true) H'
theorem ok__law_right : FnOk P w K mg base CX0 15 f__law_right fd__law_right ["_law_made_here", "_law_row_here"] (sp__law_right K C_Dialect) := by
 have G__law_first : FnOk P w K mg base CX0 14 f__law_first fd__law_first ["_law_made_here", "_law_row_here"] (sp__law_first K C_Dialect) := ok__law_first T
 have G__law_written : FnOk P w K mg base CX0 13 f__law_written fd__law_written ["_law_made_here", "_law_table"] (sp__law_written K C_Dialect) := ok__law_written T
 refine T.F__law_right.ok sc__law_right (fun vs H Q E h => ?_) (fun cdv A outer s H vs Q E hr h => ?_)
 · obtain ⟨x, dx, a, r, p, q, f, b1, b2, b3, b4, rfl, _⟩ := h; rfl
 · have hu := hu_of hr
   have hu0 := hr.units0
   obtain ⟨x, dx, a, r, p, q, f, b1, b2, b3, b4, rfl, hx, g, ha, rok, hrs, k⟩ := h
   have hu64 := hr.units
   refine ⟨_, (pss_cons (ps_set (i := 2) sc__law_right.nd rfl (by first | exact Or.inl rfl | exact Or.inr rfl) (pe_call (k := 13) G__law_written (hr.mono (by decide)) rfl T.g__law_written T.F__law_written.kp T.b__law_written .nil pass0 (pa_cons (pv 0) (pa_cons (pe_lst (pa_cons (pv 1) pa_nil)) pa_nil))))
     (pss_cons (ps_set (i := 3) sc__law_right.nd rfl (by first | exact Or.inl rfl | exact Or.inr rfl) (pe_call (k := 14) G__law_first (hr.mono (by decide)) rfl T.g__law_first T.F__law_first.kp T.b__law_first .nil pass0 (pa_cons (pv 0) (pa_cons (pv 1) pa_nil))))
     (pss_cons (ps_if (pt_cmpR op_isN (pv 3) pe_non (nomark _)) (pss_one (ps_ret (pe_cmpR op_eq (pe_ix (ixK_tup K rfl) (pv 2) pe_int (fun _ _ => rfl)) pe_str (nomark _)))) pss_nil)
     (pss_one (ps_ret (pe_cmpR (op_eqS K rfl hu64) (pv 2) (pe_tup (pa_cons pe_str (pa_cons pe_int (pa_cons (pv 3) pa_nil)))) (nomark _))))))), ?_⟩
   refine ⟨_, rfl, _, rfl, (by show 1 ≤ sizeLine; decide), fun l1 hl1 => ?_⟩
   (have s1 := same_new (o := HO.lst [V.ref a]) hl1; have q1 := upd_same (H := H) (a := l1) (o := HO.lst [V.ref a]); generalize upd H l1 (HO.lst [V.ref a]) = H1 at s1 q1 ⊢)
   refine ⟨x, dx, l1, _, [r], p, q, f, b1, b2, b3, b4, rfl, s1 _ _ hx, g, q1, .cons ⟨a, rfl, s1 _ _ ha⟩ .nil, tabok1 rok (by omega), fun tf H2 hw s2 => ?_⟩
   have s12 := s1.trans s2
   unfold Wrn at hw
   rw [tokTab_one] at hw
   dsimp only [gName]
   refine ⟨_, rfl, _, rfl, x, dx, a, r, p, q, f, b1, b2, b3, b4, rfl, s12 _ _ hx, g, s12 _ _ ha, rok, hrs, fun H3 hall s3 => ?_, fun i c H3 hc hb hno s3 => ?_⟩
   · dsimp only [gName]
     refine ⟨_, rfl, rfl, _, rfl, iteBt rfl ?_⟩
     rcases hw with ⟨F, hF, wF⟩ | ⟨n, hF, hn, hm⟩
     · exact ⟨_, rfl, tf, _, _, _, rfl, rfl, SqT.of (s3 _ _ hF), rfl, rfl, by have := k H3 (s12.trans s3); rw [show decide (V.str (Str.ofString "text") = V.str (Str.ofString "text")) = true from decide_eq_true rfl]; exact this⟩
     · obtain ⟨s, hs⟩ := row_wr rok.lo hall
       exact absurd hs (hn s)
   · dsimp only [gName]
     refine ⟨_, rfl, rfl, _, rfl, iteBf rfl ?_⟩
     rcases hw with ⟨F, hF, wF⟩ | ⟨n, hF, hn, hm⟩
     · have := wF.rd
       rw [tokTab_one] at this
       exact absurd this (row_no hc hno _)
     · rw [row_max hc hb hno hm] at hF
       refine ⟨_, rfl, _, rfl, (by show 3 ≤ sizeLine; decide), fun t2 ht2 => ?_⟩
       have st := same_new (o := HO.tup [.str (Str.ofString "none"), .int 0, .int (i : Int)]) ht2
       exact ⟨topd_flat (st _ _ (s3 _ _ hF)) upd_same rfl, k _ ((s12.trans s3).trans st)⟩
def sp_law (K : PySem.W.Frag) : Sp := fun vs H Q _ => ∃ (a : Addr) (ns : List Int), vs = [.ref a] ∧ SqL K H a (ns.map V.int) ∧ ns.length ≤ 63 ∧ ∀ H', Q (.bl true) H'
theorem ok_law : FnOk P w K mg base CX0 16 f_law fd_law ["_law_script"] (sp_law K) := by
 have G__law_cell_at : FnOk P w K mg base CX0 1 f__law_cell_at fd__law_cell_at ["_law_script", "_law_k"] (sp__law_cell_at K) := ok__law_cell_at T
 have G__law_first : FnOk P w K mg base CX0 14 f__law_first fd__law_first ["_law_made_here", "_law_row_here"] (sp__law_first K C_Dialect) := ok__law_first T
 have G__law_made : FnOk P w K mg base CX0 5 f__law_made fd__law_made ["_law_told_here"] (sp__law_made C_Dialect) := ok__law_made T
 have G__law_right : FnOk P w K mg base CX0 15 f__law_right fd__law_right ["_law_made_here", "_law_row_here"] (sp__law_right K C_Dialect) := ok__law_right T
 have G__law_row : FnOk P w K mg base CX0 3 f__law_row fd__law_row ["_law_told_here", "_law_cell", "_law_salt", "_law_most"] (sp__law_row K) := ok__law_row T
 have G__law_told : FnOk P w K mg base CX0 3 f__law_told fd__law_told ["_law_cell"] sp__law_told := ok__law_told T
 have G__law_written : FnOk P w K mg base CX0 13 f__law_written fd__law_written ["_law_made_here", "_law_table"] (sp__law_written K C_Dialect) := ok__law_written T
 refine T.F_law.ok sc_law (fun vs H Q E h => ?_) (fun cdv A outer s H vs Q E hr h => ?_)
 · obtain ⟨a, ns, rfl, _⟩ := h; rfl
 · have hu := hu_of hr
   have hu0 := hr.units0
   obtain ⟨a, ns, rfl, hS, hlen, k⟩ := h
   have hu64 := hr.units
   refine ⟨_, (pss_cons (ps_set (i := 1) sc_law.nd rfl (by first | exact Or.inl rfl | exact Or.inr rfl) (pe_call (k := 3) G__law_told (hr.mono (by decide)) rfl T.g__law_told T.F__law_told.kp T.b__law_told .nil pass0 (pa_cons (pe_call (k := 1) G__law_cell_at (hr.mono (by decide)) rfl T.g__law_cell_at T.F__law_cell_at.kp T.b__law_cell_at .nil pass0 (pa_cons (pv 0) (pa_cons pe_int pa_nil))) pa_nil)))
     (pss_cons (ps_set (i := 2) sc_law.nd rfl (by first | exact Or.inl rfl | exact Or.inr rfl) (pe_call (k := 5) G__law_made (hr.mono (by decide)) rfl T.g__law_made T.F__law_made.kp T.b__law_made .nil pass0 (pa_cons (pv 1) pa_nil)))
     (pss_cons (ps_set (i := 3) sc_law.nd rfl (by first | exact Or.inl rfl | exact Or.inr rfl) (pe_call (k := 3) G__law_row (hr.mono (by decide)) rfl T.g__law_row T.F__law_row.kp T.b__law_row .nil pass0 (pa_cons (pv 1) (pa_cons (pe_call (k := 1) G__law_cell_at (hr.mono (by decide)) rfl T.g__law_cell_at T.F__law_cell_at.kp T.b__law_cell_at .nil pass0 (pa_cons (pv 0) (pa_cons pe_int pa_nil))) (pa_cons pe_int (pa_cons pe_int pa_nil))))))
     (pss_cons (ps_set (i := 4) sc_law.nd rfl (by first | exact Or.inl rfl | exact Or.inr rfl) (pe_call (k := 14) G__law_first (hr.mono (by decide)) rfl T.g__law_first T.F__law_first.kp T.b__law_first .nil pass0 (pa_cons (pv 2) (pa_cons (pv 3) pa_nil))))
     (pss_cons (ps_if (PW.pt (pw_and (pt_cmpR op_notN (pv 4) pe_non (nomark _)) (pw_and1 (pt_cmpR op_lt (pe_callB (callK_len_seq K rfl) rfl T.no_len (by decide +kernel) (pa_cons (pv 3) pa_nil)) pe_int (nomark _))))) (pss_cons (ps_if (pt_cmpR op_ne (pe_ix (ixK_tup K rfl) (pe_call (k := 13) G__law_written (hr.mono (by decide)) rfl T.g__law_written T.F__law_written.kp T.b__law_written .nil pass0 (pa_cons (pv 2) (pa_cons (pe_lst (pa_cons (pe_op op_cat (pe_lst (pa_cons (pe_ix (ixK_list K rfl) (pv 3) (pv 4) (fun _ _ => rfl)) pa_nil)) (pv 3)) pa_nil)) pa_nil))) pe_int (fun _ _ => rfl)) pe_str (nomark _)) (pss_one (ps_ret pe_bl)) pss_nil)
     (pss_one (ps_if (PW.pt (pw_and (pt_cmpR op_lt (pv 4) (pe_op op_sub (pe_callB (callK_len_seq K rfl) rfl T.no_len (by decide +kernel) (pa_cons (pv 3) pa_nil)) pe_int) (nomark _)) (pw_and1 (pt_cmpR (op_neS K rfl hu64) (pe_call (k := 13) G__law_written (hr.mono (by decide)) rfl T.g__law_written T.F__law_written.kp T.b__law_written .nil pass0 (pa_cons (pv 2) (pa_cons (pe_lst (pa_cons (pe_op op_cat (pe_lst (pa_cons (pe_ix (ixK_list K rfl) (pv 3) (pv 4) (fun _ _ => rfl)) pa_nil)) (pv 3)) pa_nil)) pa_nil))) (pe_tup (pa_cons pe_str (pa_cons pe_int (pa_cons pe_int pa_nil)))) (nomark _))))) (pss_one (ps_ret pe_bl)) pss_nil))) pss_nil)
     (pss_one (ps_ret (pe_and (pe_call (k := 15) G__law_right (hr.mono (by decide)) rfl T.g__law_right T.F__law_right.kp T.b__law_right .nil pass0 (pa_cons (pv 2) (pa_cons (pv 3) pa_nil))) (pe_one (pe_call (k := 15) G__law_right (hr.mono (by decide)) rfl T.g__law_right T.F__law_right.kp T.b__law_right .nil pass0 (pa_cons (pv 2) (pa_cons (peK_slrev K rfl (pv 3) (pe_un un_neg pe_int)) pa_nil)))))))))))), ?_⟩
   refine ⟨_, rfl, a, _, _, rfl, hS, by decide, fun c0 => ⟨c0, rfl, fun t p q f b1 b2 b3 b4 H1 g ht h1 s1 => ?_⟩⟩
   refine ⟨_, rfl, t, p, q, f, b1, b2, b3, b4, rfl, h1, g, fun x dx H2 hx0 hx s2 => ?_⟩
   have s12 := s1.trans s2
   have ht2 := s2 _ _ h1
   refine ⟨_, rfl, _, rfl, a, _, _, rfl, s12.seq hS, by decide, fun c1 => ⟨t, _, _, _, p, q, f, b1, b2, b3, b4, rfl, ht2, g, by decide, by decide, by decide, by decide, fun l r H3 hl0 hl rok hrs s3 => ?_⟩⟩
   have hx3 := s3 _ _ hx
   have hml : (r.map V.str).length = r.length := List.length_map ..
   have hhi := rok.hi
   dsimp only [gName]
   refine seq_split (t := tAsg _ _) (fun σ' H' => ∃ v, Same H3 H' ∧ σ' = [some (.ref a), some (.ref t), some (.ref x), some (.ref l), some v] ∧ (v = .non ∨ ∃ (i : Nat) (c : Str), v = .int i ∧ r[i]? = some c ∧ ¬ CellW p q f b1 b2 b3 b4 c (tokAt r i))) ?_ (fun go => ?_)
   rotate_left
   · refine ⟨_, rfl, _, rfl, x, dx, l, r, p, q, f, b1, b2, b3, b4, rfl, hx3, g, hl, rok, by omega, fun H4 _ s4 => ?_, fun i c H4 hc _ hno s4 => ?_⟩
     · exact go _ _ ⟨_, s4, rfl, .inl rfl⟩
     · exact go _ _ ⟨_, s4, rfl, .inr ⟨i, c, rfl, hc, hno⟩⟩
   rintro σ' H4 ⟨v, s4, rfl, hv⟩
   refine seq_split (t := tIfS _ _ _) (fun σ' H' => Same H3 H' ∧ σ' = [some (.ref a), some (.ref t), some (.ref x), some (.ref l), some v]) ?_ (fun go => ?_)
   · rintro σ' H5 ⟨s5, rfl⟩
     have hl5 := s5 _ _ hl
     refine ⟨_, rfl, _, rfl, x, dx, l, r, p, q, f, b1, b2, b3, b4, rfl, s5 _ _ hx3, g, hl5, rok, by omega, fun H6 s6 => ?_⟩
     have hl6 := s6 _ _ hl5
     refine ⟨_, rfl, iteT (⟨_, rfl, _, rfl, _, rfl, _, _, rfl, rfl, SqL.of hl6, fun l2 hl2 => ?_⟩)⟩
     rw [← List.map_reverse]
     have st := same_new (o := HO.lst (r.reverse.map V.str)) hl2
     exact ⟨x, dx, l2, r.reverse, p, q, f, b1, b2, b3, b4, rfl, ((s5.trans s6).trans st) _ _ hx3, g, upd_same, rok.rev, by rw [lens_rev]; omega, fun H7 s7 => k _⟩
   · rcases hv with rfl | ⟨i, c, rfl, hc, hno⟩
     · exact ⟨_, rfl, rfl, _, rfl, iteBf rfl (iteF (go _ _ ⟨s4, rfl⟩))⟩
     have hi := (List.getElem?_eq_some_iff.mp hc).1
     have hl4 := s4 _ _ hl
     refine ⟨_, rfl, rfl, _, rfl, iteBt rfl ?_⟩
     refine ⟨_, rfl, l, _, rfl, .inl (SqL.of hl4), _, _, rfl, rfl, _, rfl, rd2 (fun h20 => ?_) (fun h20 => go _ _ ⟨s4, rfl⟩)⟩
     have h20 : r.length < 20 := by omega
     have hat : atI (r.map V.str) (i : Int) = some (.str c) := atI_nat (by rw [List.getElem?_map, hc]; rfl)
     have hcm := List.mem_of_getElem? hc
     have hcl := cell_len hcm
     have rok2 : RowOk (c :: r) := ⟨by rw [List.length_cons]; omega, by rw [List.length_cons]; omega, fun d hd => by
       rcases List.mem_cons.mp hd with z | z
       · rw [z]; exact rok.ok c hcm
       · exact rok.ok d z⟩
     have hs2 : (lens (c :: r)).sum ≤ 400 := by show c.length + (lens r).sum ≤ 400; omega
     have hno2 : NoW p q f b1 b2 b3 b4 (tokRow (c :: r)) := by
       by_cases hl : i + 1 = r.length
       · refine row_no (i := i + 1) (c := c) (by rw [List.getElem?_cons_succ]; exact hc) ?_
         have e : tokAt (c :: r) (i + 1) = tokAt r i := by unfold tokAt; rw [List.length_cons, if_pos (by omega), if_pos hl]
         rw [e]; exact hno
       · refine row_no (i := 0) (c := c) rfl ?_
         have e : tokAt (c :: r) 0 = tokAt r i := by unfold tokAt; rw [List.length_cons, if_neg (by omega), if_neg hl]
         rw [e]; exact hno
     have call : ∀ (J : Hp) (R : VK), Same H3 J → (∀ tf J' n, J' tf = some (.tup [.str (Str.ofString "none"), .int (cellAt ((tokRow (c :: r)).take n)).1, .int (cellAt ((tokRow (c :: r)).take n)).2]) → MaxT p q f b1 b2 b3 b4 (tokRow (c :: r)) n → Same H3 J' → R (.ref tf) J') → tCall (sp__law_written K C_Dialect) [] E0 (tCons (tVar 2) (tCons (tLst (tCons (tOp rCat (tLst (tCons (tOp (rIxL K) (tVar 3) (tVar 4)) tNil)) (tVar 3)) tNil)) tNil)) [some (.ref a), some (.ref t), some (.ref x), some (.ref l), some (.int i)] J R := by
       intro J R sJ kk
       have hlJ := sJ _ _ hl
       refine ⟨_, rfl, _, rfl, _, rfl, _, _, _, _, rfl, rfl, SqL.of hlJ, hat, (by show (1 : Nat) ≤ sizeLine; decide), fun u hu => ?_⟩
       have s5 := same_new (o := HO.lst [.str c]) hu
       refine ⟨_, rfl, u, l, _, _, rfl, rfl, upd_same, s5 _ _ hlJ, ?_, fun w hw => ⟨(by show (1 : Nat) ≤ sizeLine; decide), fun z hz => ?_⟩⟩
       · rw [hml]; exact Nat.le_trans (show 1 + r.length ≤ 100 by omega) (by decide)
       have s6 := same_new (o := HO.lst ([V.str c] ++ r.map V.str)) hw
       have s7 := same_new (o := HO.lst [V.ref w]) hz
       have s37 := sJ.trans (s5.trans (s6.trans s7))
       refine ⟨x, dx, z, _, [c :: r], p, q, f, b1, b2, b3, b4, rfl, s37 _ _ hx3, g, upd_same, .cons ⟨w, rfl, s7 _ _ upd_same⟩ .nil, tabok1 rok2 hs2, fun tf J' hw' s8 => ?_⟩
       unfold Wrn at hw'
       rw [tokTab_one] at hw'
       rcases hw' with ⟨F, hF, wF⟩ | ⟨n, hF, hn, hm⟩
       · have := wF.rd
         rw [tokTab_one] at this
         exact absurd this (hno2 _)
       · exact kk tf J' n hF hm (s37.trans s8)
     refine call H4 _ s4 fun tf J n hF hm sJ => ?_
     refine ⟨tf, _, _, _, rfl, rfl, SqT.of hF, rfl, rfl, _, rfl, iteNE (isS_self _) ?_⟩
     dsimp only [tNext]
     refine ⟨_, rfl, _, rfl, l, _, rfl, .inl (SqL.of (sJ _ _ hl)), _, _, rfl, rfl, _, _, rfl, rfl, _, rfl, rd2 (fun hlt => ?_) (fun hlt => iteF (go _ _ ⟨sJ, rfl⟩))⟩
     have hb0 : cellAt ((tokRow (c :: r)).take n) = (0, 0) := by
       have e : tokAt (c :: r) 0 = tokAt r i := by unfold tokAt; rw [List.length_cons, if_neg (by omega), if_neg (by omega)]
       exact row_max (i := 0) (c := c) rfl (fun j d hj => absurd hj (Nat.not_lt_zero _)) (by rw [e]; exact hno) hm
     refine call J _ sJ fun t5 J5 n5 hF5 hm5 s5 => ?_
     rw [MaxT.one hm5 hm, hb0] at hF5
     refine ⟨(by show 3 ≤ sizeLine; decide), fun t6 ht6 => ?_⟩
     have st := same_new (o := HO.tup [.str (Str.ofString "none"), .int 0, .int 0]) ht6
     exact ⟨topd_flat (st _ _ hF5) upd_same rfl, _, rfl, iteF (go _ _ ⟨s5.trans st, rfl⟩)⟩
end
end
theorem all_mk {l : PySem.W.OpenLaw} {w : World} {K : PySem.W.Frag} {h : Heap} {mg : Str → Option Value} {fa f_is_printable f_has_signs_alone f_are_unlike_signs f_Dialect___init__ f_Dialect_told f_dialect_of f_step_at_beginning f_step_in_plain f_step_within f_step_behind f_step_in_doubt f_step_freed f_Turn___init__ f_Turn_step f_once f_Dialect_special f_is_live f_Turn_live_step f_count_behind f_Marker___init__ f_Marker_mark_behind f_Marker_has_read_all f_Writer___init__ f_Writer_leads f_Writer_is_good f_search f_text_to f_is_cell f_is_row f_signs_in_row f_is_table f_check_table f_tokens_of_row f_tokens_of f_cell_at f_NoWriting___init__ f_shortest f__law_cell_at f__law_mixed f__law_number f__law_some f__law_menus f__law_told f__law_made f__law_row f__law_written f__law_first f__law_right f_law C_Dialect C_Turn C_Marker C_Writer C_DialectError N_DialectError C_NoWriting N_NoWriting a_START a_PART a_END : Addr} {z_LINE : Str} {dt_Dialect___init__ dt_search : Addr} (X : K.In h) (G : h.Ns mainGlobals mg) (hfa : mg "law" = some (.ref fa))
   (aC_Dialect : PySem.W.nsIn K mainGlobals "Dialect" = some (some (.ref C_Dialect)))
   (aC_Turn : PySem.W.nsIn K mainGlobals "Turn" = some (some (.ref C_Turn)))
   (aC_Marker : PySem.W.nsIn K mainGlobals "Marker" = some (some (.ref C_Marker)))
   (aC_Writer : PySem.W.nsIn K mainGlobals "Writer" = some (some (.ref C_Writer)))
   (aX_DialectError : PySem.W.nsIn K mainGlobals "DialectError" = some (some (.ref C_DialectError)))
   (aX_NoWriting : PySem.W.nsIn K mainGlobals "NoWriting" = some (some (.ref C_NoWriting)))
   {od0 an0 : Option Addr} {sl0 : Array (Option Value)} {oc0 kV0 dc0 pm0 cd0 ct0 : Value}
   (a0 : PySem.W.nsIn K mainGlobals "is_printable" = some (some (.ref f_is_printable)))
   (l0 : K.lookup f_is_printable = some ⟨oc0, od0, .func (PySem.W.fnOf "is_printable" "is_printable" (defArgs s_is_printable) (defBody s_is_printable) (defScope s_is_printable) .none kV0 dc0 pm0 an0 cd0 ct0), sl0⟩) (c0 : PySem.W.codeIn K cd0 "is_printable" = true) (k0 : PySem.W.keepIn K (.ref f_is_printable) = true)
   {od1 an1 : Option Addr} {sl1 : Array (Option Value)} {oc1 kV1 dc1 pm1 cd1 ct1 : Value}
   (a1 : PySem.W.nsIn K mainGlobals "has_signs_alone" = some (some (.ref f_has_signs_alone)))
   (l1 : K.lookup f_has_signs_alone = some ⟨oc1, od1, .func (PySem.W.fnOf "has_signs_alone" "has_signs_alone" (defArgs s_has_signs_alone) (defBody s_has_signs_alone) (defScope s_has_signs_alone) .none kV1 dc1 pm1 an1 cd1 ct1), sl1⟩) (c1 : PySem.W.codeIn K cd1 "has_signs_alone" = true) (k1 : PySem.W.keepIn K (.ref f_has_signs_alone) = true)
   {od2 an2 : Option Addr} {sl2 : Array (Option Value)} {oc2 kV2 dc2 pm2 cd2 ct2 : Value}
   (a2 : PySem.W.nsIn K mainGlobals "are_unlike_signs" = some (some (.ref f_are_unlike_signs)))
   (l2 : K.lookup f_are_unlike_signs = some ⟨oc2, od2, .func (PySem.W.fnOf "are_unlike_signs" "are_unlike_signs" (defArgs s_are_unlike_signs) (defBody s_are_unlike_signs) (defScope s_are_unlike_signs) .none kV2 dc2 pm2 an2 cd2 ct2), sl2⟩) (c2 : PySem.W.codeIn K cd2 "are_unlike_signs" = true) (k2 : PySem.W.keepIn K (.ref f_are_unlike_signs) = true)
   {od3 an3 : Option Addr} {sl3 : Array (Option Value)} {oc3 kV3 dc3 pm3 cd3 ct3 : Value}
   (a3 : PySem.W.findIn K (.ref C_Dialect) "__init__" = some (some (.ref f_Dialect___init__))) (i3 : PySem.W.isFn K (.ref f_Dialect___init__) = true)
   (l3 : K.lookup f_Dialect___init__ = some ⟨oc3, od3, .func (PySem.W.fnOf "__init__" "Dialect.__init__" (defArgs s_Dialect___init__) (defBody s_Dialect___init__) (defScope s_Dialect___init__) (.ref dt_Dialect___init__) kV3 dc3 pm3 an3 cd3 ct3), sl3⟩) (c3 : PySem.W.codeIn K cd3 "Dialect.__init__" = true) (k3 : PySem.W.keepIn K (.ref f_Dialect___init__) = true)
   {od_d3 : Option Addr} {n_d3 : Nat} {sl_d3 : Array (Option Value)} {td3_0 td3_1 : Tok} (d3 : K.lookup dt_Dialect___init__ = some ⟨.type "tuple", od_d3, .seq #[.str (Str.ofString "") td3_0, .str (Str.ofString "") td3_1, .bool false, .bool false, .bool false, .bool false] n_d3, sl_d3⟩)
   {od4 an4 : Option Addr} {sl4 : Array (Option Value)} {oc4 kV4 dc4 pm4 cd4 ct4 : Value}
   (a4 : PySem.W.findIn K (.ref C_Dialect) "told" = some (some (.ref f_Dialect_told))) (i4 : PySem.W.isFn K (.ref f_Dialect_told) = true)
   (l4 : K.lookup f_Dialect_told = some ⟨oc4, od4, .func (PySem.W.fnOf "told" "Dialect.told" (defArgs s_Dialect_told) (defBody s_Dialect_told) (defScope s_Dialect_told) .none kV4 dc4 pm4 an4 cd4 ct4), sl4⟩) (c4 : PySem.W.codeIn K cd4 "Dialect.told" = true) (k4 : PySem.W.keepIn K (.ref f_Dialect_told) = true)
   {od5 an5 : Option Addr} {sl5 : Array (Option Value)} {oc5 kV5 dc5 pm5 cd5 ct5 : Value}
   (a5 : PySem.W.nsIn K mainGlobals "dialect_of" = some (some (.ref f_dialect_of)))
   (l5 : K.lookup f_dialect_of = some ⟨oc5, od5, .func (PySem.W.fnOf "dialect_of" "dialect_of" (defArgs s_dialect_of) (defBody s_dialect_of) (defScope s_dialect_of) .none kV5 dc5 pm5 an5 cd5 ct5), sl5⟩) (c5 : PySem.W.codeIn K cd5 "dialect_of" = true) (k5 : PySem.W.keepIn K (.ref f_dialect_of) = true)
   {od6 an6 : Option Addr} {sl6 : Array (Option Value)} {oc6 kV6 dc6 pm6 cd6 ct6 : Value}
   (a6 : PySem.W.nsIn K mainGlobals "step_at_beginning" = some (some (.ref f_step_at_beginning)))
   (l6 : K.lookup f_step_at_beginning = some ⟨oc6, od6, .func (PySem.W.fnOf "step_at_beginning" "step_at_beginning" (defArgs s_step_at_beginning) (defBody s_step_at_beginning) (defScope s_step_at_beginning) .none kV6 dc6 pm6 an6 cd6 ct6), sl6⟩) (c6 : PySem.W.codeIn K cd6 "step_at_beginning" = true) (k6 : PySem.W.keepIn K (.ref f_step_at_beginning) = true)
   {od7 an7 : Option Addr} {sl7 : Array (Option Value)} {oc7 kV7 dc7 pm7 cd7 ct7 : Value}
   (a7 : PySem.W.nsIn K mainGlobals "step_in_plain" = some (some (.ref f_step_in_plain)))
   (l7 : K.lookup f_step_in_plain = some ⟨oc7, od7, .func (PySem.W.fnOf "step_in_plain" "step_in_plain" (defArgs s_step_in_plain) (defBody s_step_in_plain) (defScope s_step_in_plain) .none kV7 dc7 pm7 an7 cd7 ct7), sl7⟩) (c7 : PySem.W.codeIn K cd7 "step_in_plain" = true) (k7 : PySem.W.keepIn K (.ref f_step_in_plain) = true)
   {od8 an8 : Option Addr} {sl8 : Array (Option Value)} {oc8 kV8 dc8 pm8 cd8 ct8 : Value}
   (a8 : PySem.W.nsIn K mainGlobals "step_within" = some (some (.ref f_step_within)))
   (l8 : K.lookup f_step_within = some ⟨oc8, od8, .func (PySem.W.fnOf "step_within" "step_within" (defArgs s_step_within) (defBody s_step_within) (defScope s_step_within) .none kV8 dc8 pm8 an8 cd8 ct8), sl8⟩) (c8 : PySem.W.codeIn K cd8 "step_within" = true) (k8 : PySem.W.keepIn K (.ref f_step_within) = true)
   {od9 an9 : Option Addr} {sl9 : Array (Option Value)} {oc9 kV9 dc9 pm9 cd9 ct9 : Value}
   (a9 : PySem.W.nsIn K mainGlobals "step_behind" = some (some (.ref f_step_behind)))
   (l9 : K.lookup f_step_behind = some ⟨oc9, od9, .func (PySem.W.fnOf "step_behind" "step_behind" (defArgs s_step_behind) (defBody s_step_behind) (defScope s_step_behind) .none kV9 dc9 pm9 an9 cd9 ct9), sl9⟩) (c9 : PySem.W.codeIn K cd9 "step_behind" = true) (k9 : PySem.W.keepIn K (.ref f_step_behind) = true)
   {od10 an10 : Option Addr} {sl10 : Array (Option Value)} {oc10 kV10 dc10 pm10 cd10 ct10 : Value}
   (a10 : PySem.W.nsIn K mainGlobals "step_in_doubt" = some (some (.ref f_step_in_doubt)))
   (l10 : K.lookup f_step_in_doubt = some ⟨oc10, od10, .func (PySem.W.fnOf "step_in_doubt" "step_in_doubt" (defArgs s_step_in_doubt) (defBody s_step_in_doubt) (defScope s_step_in_doubt) .none kV10 dc10 pm10 an10 cd10 ct10), sl10⟩) (c10 : PySem.W.codeIn K cd10 "step_in_doubt" = true) (k10 : PySem.W.keepIn K (.ref f_step_in_doubt) = true)
   {od11 an11 : Option Addr} {sl11 : Array (Option Value)} {oc11 kV11 dc11 pm11 cd11 ct11 : Value}
   (a11 : PySem.W.nsIn K mainGlobals "step_freed" = some (some (.ref f_step_freed)))
   (l11 : K.lookup f_step_freed = some ⟨oc11, od11, .func (PySem.W.fnOf "step_freed" "step_freed" (defArgs s_step_freed) (defBody s_step_freed) (defScope s_step_freed) .none kV11 dc11 pm11 an11 cd11 ct11), sl11⟩) (c11 : PySem.W.codeIn K cd11 "step_freed" = true) (k11 : PySem.W.keepIn K (.ref f_step_freed) = true)
   {od12 an12 : Option Addr} {sl12 : Array (Option Value)} {oc12 kV12 dc12 pm12 cd12 ct12 : Value}
   (a12 : PySem.W.findIn K (.ref C_Turn) "__init__" = some (some (.ref f_Turn___init__))) (i12 : PySem.W.isFn K (.ref f_Turn___init__) = true)
   (l12 : K.lookup f_Turn___init__ = some ⟨oc12, od12, .func (PySem.W.fnOf "__init__" "Turn.__init__" (defArgs s_Turn___init__) (defBody s_Turn___init__) (defScope s_Turn___init__) .none kV12 dc12 pm12 an12 cd12 ct12), sl12⟩) (c12 : PySem.W.codeIn K cd12 "Turn.__init__" = true) (k12 : PySem.W.keepIn K (.ref f_Turn___init__) = true)
   {od13 an13 : Option Addr} {sl13 : Array (Option Value)} {oc13 kV13 dc13 pm13 cd13 ct13 : Value}
   (a13 : PySem.W.findIn K (.ref C_Turn) "step" = some (some (.ref f_Turn_step))) (i13 : PySem.W.isFn K (.ref f_Turn_step) = true)
   (l13 : K.lookup f_Turn_step = some ⟨oc13, od13, .func (PySem.W.fnOf "step" "Turn.step" (defArgs s_Turn_step) (defBody s_Turn_step) (defScope s_Turn_step) .none kV13 dc13 pm13 an13 cd13 ct13), sl13⟩) (c13 : PySem.W.codeIn K cd13 "Turn.step" = true) (k13 : PySem.W.keepIn K (.ref f_Turn_step) = true)
   {od14 an14 : Option Addr} {sl14 : Array (Option Value)} {oc14 kV14 dc14 pm14 cd14 ct14 : Value}
   (a14 : PySem.W.nsIn K mainGlobals "once" = some (some (.ref f_once)))
   (l14 : K.lookup f_once = some ⟨oc14, od14, .func (PySem.W.fnOf "once" "once" (defArgs s_once) (defBody s_once) (defScope s_once) .none kV14 dc14 pm14 an14 cd14 ct14), sl14⟩) (c14 : PySem.W.codeIn K cd14 "once" = true) (k14 : PySem.W.keepIn K (.ref f_once) = true)
   {od15 an15 : Option Addr} {sl15 : Array (Option Value)} {oc15 kV15 dc15 pm15 cd15 ct15 : Value}
   (a15 : PySem.W.findIn K (.ref C_Dialect) "special" = some (some (.ref f_Dialect_special))) (i15 : PySem.W.isFn K (.ref f_Dialect_special) = true)
   (l15 : K.lookup f_Dialect_special = some ⟨oc15, od15, .func (PySem.W.fnOf "special" "Dialect.special" (defArgs s_Dialect_special) (defBody s_Dialect_special) (defScope s_Dialect_special) .none kV15 dc15 pm15 an15 cd15 ct15), sl15⟩) (c15 : PySem.W.codeIn K cd15 "Dialect.special" = true) (k15 : PySem.W.keepIn K (.ref f_Dialect_special) = true)
   {od16 an16 : Option Addr} {sl16 : Array (Option Value)} {oc16 kV16 dc16 pm16 cd16 ct16 : Value}
   (a16 : PySem.W.nsIn K mainGlobals "is_live" = some (some (.ref f_is_live)))
   (l16 : K.lookup f_is_live = some ⟨oc16, od16, .func (PySem.W.fnOf "is_live" "is_live" (defArgs s_is_live) (defBody s_is_live) (defScope s_is_live) .none kV16 dc16 pm16 an16 cd16 ct16), sl16⟩) (c16 : PySem.W.codeIn K cd16 "is_live" = true) (k16 : PySem.W.keepIn K (.ref f_is_live) = true)
   {od17 an17 : Option Addr} {sl17 : Array (Option Value)} {oc17 kV17 dc17 pm17 cd17 ct17 : Value}
   (a17 : PySem.W.findIn K (.ref C_Turn) "live_step" = some (some (.ref f_Turn_live_step))) (i17 : PySem.W.isFn K (.ref f_Turn_live_step) = true)
   (l17 : K.lookup f_Turn_live_step = some ⟨oc17, od17, .func (PySem.W.fnOf "live_step" "Turn.live_step" (defArgs s_Turn_live_step) (defBody s_Turn_live_step) (defScope s_Turn_live_step) .none kV17 dc17 pm17 an17 cd17 ct17), sl17⟩) (c17 : PySem.W.codeIn K cd17 "Turn.live_step" = true) (k17 : PySem.W.keepIn K (.ref f_Turn_live_step) = true)
   {od18 an18 : Option Addr} {sl18 : Array (Option Value)} {oc18 kV18 dc18 pm18 cd18 ct18 : Value}
   (a18 : PySem.W.nsIn K mainGlobals "count_behind" = some (some (.ref f_count_behind)))
   (l18 : K.lookup f_count_behind = some ⟨oc18, od18, .func (PySem.W.fnOf "count_behind" "count_behind" (defArgs s_count_behind) (defBody s_count_behind) (defScope s_count_behind) .none kV18 dc18 pm18 an18 cd18 ct18), sl18⟩) (c18 : PySem.W.codeIn K cd18 "count_behind" = true) (k18 : PySem.W.keepIn K (.ref f_count_behind) = true)
   {od19 an19 : Option Addr} {sl19 : Array (Option Value)} {oc19 kV19 dc19 pm19 cd19 ct19 : Value}
   (a19 : PySem.W.findIn K (.ref C_Marker) "__init__" = some (some (.ref f_Marker___init__))) (i19 : PySem.W.isFn K (.ref f_Marker___init__) = true)
   (l19 : K.lookup f_Marker___init__ = some ⟨oc19, od19, .func (PySem.W.fnOf "__init__" "Marker.__init__" (defArgs s_Marker___init__) (defBody s_Marker___init__) (defScope s_Marker___init__) .none kV19 dc19 pm19 an19 cd19 ct19), sl19⟩) (c19 : PySem.W.codeIn K cd19 "Marker.__init__" = true) (k19 : PySem.W.keepIn K (.ref f_Marker___init__) = true)
   {od20 an20 : Option Addr} {sl20 : Array (Option Value)} {oc20 kV20 dc20 pm20 cd20 ct20 : Value}
   (a20 : PySem.W.findIn K (.ref C_Marker) "mark_behind" = some (some (.ref f_Marker_mark_behind))) (i20 : PySem.W.isFn K (.ref f_Marker_mark_behind) = true)
   (l20 : K.lookup f_Marker_mark_behind = some ⟨oc20, od20, .func (PySem.W.fnOf "mark_behind" "Marker.mark_behind" (defArgs s_Marker_mark_behind) (defBody s_Marker_mark_behind) (defScope s_Marker_mark_behind) .none kV20 dc20 pm20 an20 cd20 ct20), sl20⟩) (c20 : PySem.W.codeIn K cd20 "Marker.mark_behind" = true) (k20 : PySem.W.keepIn K (.ref f_Marker_mark_behind) = true)
   {od21 an21 : Option Addr} {sl21 : Array (Option Value)} {oc21 kV21 dc21 pm21 cd21 ct21 : Value}
   (a21 : PySem.W.findIn K (.ref C_Marker) "has_read_all" = some (some (.ref f_Marker_has_read_all))) (i21 : PySem.W.isFn K (.ref f_Marker_has_read_all) = true)
   (l21 : K.lookup f_Marker_has_read_all = some ⟨oc21, od21, .func (PySem.W.fnOf "has_read_all" "Marker.has_read_all" (defArgs s_Marker_has_read_all) (defBody s_Marker_has_read_all) (defScope s_Marker_has_read_all) .none kV21 dc21 pm21 an21 cd21 ct21), sl21⟩) (c21 : PySem.W.codeIn K cd21 "Marker.has_read_all" = true) (k21 : PySem.W.keepIn K (.ref f_Marker_has_read_all) = true)
   {od22 an22 : Option Addr} {sl22 : Array (Option Value)} {oc22 kV22 dc22 pm22 cd22 ct22 : Value}
   (a22 : PySem.W.findIn K (.ref C_Writer) "__init__" = some (some (.ref f_Writer___init__))) (i22 : PySem.W.isFn K (.ref f_Writer___init__) = true)
   (l22 : K.lookup f_Writer___init__ = some ⟨oc22, od22, .func (PySem.W.fnOf "__init__" "Writer.__init__" (defArgs s_Writer___init__) (defBody s_Writer___init__) (defScope s_Writer___init__) .none kV22 dc22 pm22 an22 cd22 ct22), sl22⟩) (c22 : PySem.W.codeIn K cd22 "Writer.__init__" = true) (k22 : PySem.W.keepIn K (.ref f_Writer___init__) = true)
   {od23 an23 : Option Addr} {sl23 : Array (Option Value)} {oc23 kV23 dc23 pm23 cd23 ct23 : Value}
   (a23 : PySem.W.findIn K (.ref C_Writer) "leads" = some (some (.ref f_Writer_leads))) (i23 : PySem.W.isFn K (.ref f_Writer_leads) = true)
   (l23 : K.lookup f_Writer_leads = some ⟨oc23, od23, .func (PySem.W.fnOf "leads" "Writer.leads" (defArgs s_Writer_leads) (defBody s_Writer_leads) (defScope s_Writer_leads) .none kV23 dc23 pm23 an23 cd23 ct23), sl23⟩) (c23 : PySem.W.codeIn K cd23 "Writer.leads" = true) (k23 : PySem.W.keepIn K (.ref f_Writer_leads) = true)
   {od24 an24 : Option Addr} {sl24 : Array (Option Value)} {oc24 kV24 dc24 pm24 cd24 ct24 : Value}
   (a24 : PySem.W.findIn K (.ref C_Writer) "is_good" = some (some (.ref f_Writer_is_good))) (i24 : PySem.W.isFn K (.ref f_Writer_is_good) = true)
   (l24 : K.lookup f_Writer_is_good = some ⟨oc24, od24, .func (PySem.W.fnOf "is_good" "Writer.is_good" (defArgs s_Writer_is_good) (defBody s_Writer_is_good) (defScope s_Writer_is_good) .none kV24 dc24 pm24 an24 cd24 ct24), sl24⟩) (c24 : PySem.W.codeIn K cd24 "Writer.is_good" = true) (k24 : PySem.W.keepIn K (.ref f_Writer_is_good) = true)
   {od25 an25 : Option Addr} {sl25 : Array (Option Value)} {oc25 kV25 dc25 pm25 cd25 ct25 : Value}
   (a25 : PySem.W.nsIn K mainGlobals "search" = some (some (.ref f_search)))
   (l25 : K.lookup f_search = some ⟨oc25, od25, .func (PySem.W.fnOf "search" "search" (defArgs s_search) (defBody s_search) (defScope s_search) (.ref dt_search) kV25 dc25 pm25 an25 cd25 ct25), sl25⟩) (c25 : PySem.W.codeIn K cd25 "search" = true) (k25 : PySem.W.keepIn K (.ref f_search) = true)
   {od_d25 : Option Addr} {n_d25 : Nat} {sl_d25 : Array (Option Value)} (d25 : K.lookup dt_search = some ⟨.type "tuple", od_d25, .seq #[.none] n_d25, sl_d25⟩)
   {od26 an26 : Option Addr} {sl26 : Array (Option Value)} {oc26 kV26 dc26 pm26 cd26 ct26 : Value}
   (a26 : PySem.W.nsIn K mainGlobals "text_to" = some (some (.ref f_text_to)))
   (l26 : K.lookup f_text_to = some ⟨oc26, od26, .func (PySem.W.fnOf "text_to" "text_to" (defArgs s_text_to) (defBody s_text_to) (defScope s_text_to) .none kV26 dc26 pm26 an26 cd26 ct26), sl26⟩) (c26 : PySem.W.codeIn K cd26 "text_to" = true) (k26 : PySem.W.keepIn K (.ref f_text_to) = true)
   {od27 an27 : Option Addr} {sl27 : Array (Option Value)} {oc27 kV27 dc27 pm27 cd27 ct27 : Value}
   (a27 : PySem.W.nsIn K mainGlobals "is_cell" = some (some (.ref f_is_cell)))
   (l27 : K.lookup f_is_cell = some ⟨oc27, od27, .func (PySem.W.fnOf "is_cell" "is_cell" (defArgs s_is_cell) (defBody s_is_cell) (defScope s_is_cell) .none kV27 dc27 pm27 an27 cd27 ct27), sl27⟩) (c27 : PySem.W.codeIn K cd27 "is_cell" = true) (k27 : PySem.W.keepIn K (.ref f_is_cell) = true)
   {od28 an28 : Option Addr} {sl28 : Array (Option Value)} {oc28 kV28 dc28 pm28 cd28 ct28 : Value}
   (a28 : PySem.W.nsIn K mainGlobals "is_row" = some (some (.ref f_is_row)))
   (l28 : K.lookup f_is_row = some ⟨oc28, od28, .func (PySem.W.fnOf "is_row" "is_row" (defArgs s_is_row) (defBody s_is_row) (defScope s_is_row) .none kV28 dc28 pm28 an28 cd28 ct28), sl28⟩) (c28 : PySem.W.codeIn K cd28 "is_row" = true) (k28 : PySem.W.keepIn K (.ref f_is_row) = true)
   {od29 an29 : Option Addr} {sl29 : Array (Option Value)} {oc29 kV29 dc29 pm29 cd29 ct29 : Value}
   (a29 : PySem.W.nsIn K mainGlobals "signs_in_row" = some (some (.ref f_signs_in_row)))
   (l29 : K.lookup f_signs_in_row = some ⟨oc29, od29, .func (PySem.W.fnOf "signs_in_row" "signs_in_row" (defArgs s_signs_in_row) (defBody s_signs_in_row) (defScope s_signs_in_row) .none kV29 dc29 pm29 an29 cd29 ct29), sl29⟩) (c29 : PySem.W.codeIn K cd29 "signs_in_row" = true) (k29 : PySem.W.keepIn K (.ref f_signs_in_row) = true)
   {od30 an30 : Option Addr} {sl30 : Array (Option Value)} {oc30 kV30 dc30 pm30 cd30 ct30 : Value}
   (a30 : PySem.W.nsIn K mainGlobals "is_table" = some (some (.ref f_is_table)))
   (l30 : K.lookup f_is_table = some ⟨oc30, od30, .func (PySem.W.fnOf "is_table" "is_table" (defArgs s_is_table) (defBody s_is_table) (defScope s_is_table) .none kV30 dc30 pm30 an30 cd30 ct30), sl30⟩) (c30 : PySem.W.codeIn K cd30 "is_table" = true) (k30 : PySem.W.keepIn K (.ref f_is_table) = true)
   {od31 an31 : Option Addr} {sl31 : Array (Option Value)} {oc31 kV31 dc31 pm31 cd31 ct31 : Value}
   (a31 : PySem.W.nsIn K mainGlobals "check_table" = some (some (.ref f_check_table)))
   (l31 : K.lookup f_check_table = some ⟨oc31, od31, .func (PySem.W.fnOf "check_table" "check_table" (defArgs s_check_table) (defBody s_check_table) (defScope s_check_table) .none kV31 dc31 pm31 an31 cd31 ct31), sl31⟩) (c31 : PySem.W.codeIn K cd31 "check_table" = true) (k31 : PySem.W.keepIn K (.ref f_check_table) = true)
   {od32 an32 : Option Addr} {sl32 : Array (Option Value)} {oc32 kV32 dc32 pm32 cd32 ct32 : Value}
   (a32 : PySem.W.nsIn K mainGlobals "tokens_of_row" = some (some (.ref f_tokens_of_row)))
   (l32 : K.lookup f_tokens_of_row = some ⟨oc32, od32, .func (PySem.W.fnOf "tokens_of_row" "tokens_of_row" (defArgs s_tokens_of_row) (defBody s_tokens_of_row) (defScope s_tokens_of_row) .none kV32 dc32 pm32 an32 cd32 ct32), sl32⟩) (c32 : PySem.W.codeIn K cd32 "tokens_of_row" = true) (k32 : PySem.W.keepIn K (.ref f_tokens_of_row) = true)
   {od33 an33 : Option Addr} {sl33 : Array (Option Value)} {oc33 kV33 dc33 pm33 cd33 ct33 : Value}
   (a33 : PySem.W.nsIn K mainGlobals "tokens_of" = some (some (.ref f_tokens_of)))
   (l33 : K.lookup f_tokens_of = some ⟨oc33, od33, .func (PySem.W.fnOf "tokens_of" "tokens_of" (defArgs s_tokens_of) (defBody s_tokens_of) (defScope s_tokens_of) .none kV33 dc33 pm33 an33 cd33 ct33), sl33⟩) (c33 : PySem.W.codeIn K cd33 "tokens_of" = true) (k33 : PySem.W.keepIn K (.ref f_tokens_of) = true)
   {od34 an34 : Option Addr} {sl34 : Array (Option Value)} {oc34 kV34 dc34 pm34 cd34 ct34 : Value}
   (a34 : PySem.W.nsIn K mainGlobals "cell_at" = some (some (.ref f_cell_at)))
   (l34 : K.lookup f_cell_at = some ⟨oc34, od34, .func (PySem.W.fnOf "cell_at" "cell_at" (defArgs s_cell_at) (defBody s_cell_at) (defScope s_cell_at) .none kV34 dc34 pm34 an34 cd34 ct34), sl34⟩) (c34 : PySem.W.codeIn K cd34 "cell_at" = true) (k34 : PySem.W.keepIn K (.ref f_cell_at) = true)
   {od35 an35 : Option Addr} {sl35 : Array (Option Value)} {oc35 kV35 dc35 pm35 cd35 ct35 : Value}
   (l35 : K.lookup f_NoWriting___init__ = some ⟨oc35, od35, .func (PySem.W.fnOf "__init__" "NoWriting.__init__" (defArgs s_NoWriting___init__) (defBody s_NoWriting___init__) (defScope s_NoWriting___init__) .none kV35 dc35 pm35 an35 cd35 ct35), sl35⟩) (c35 : PySem.W.codeIn K cd35 "NoWriting.__init__" = true) (k35 : PySem.W.keepIn K (.ref f_NoWriting___init__) = true)
   {od36 an36 : Option Addr} {sl36 : Array (Option Value)} {oc36 kV36 dc36 pm36 cd36 ct36 : Value}
   (a36 : PySem.W.nsIn K mainGlobals "shortest" = some (some (.ref f_shortest)))
   (l36 : K.lookup f_shortest = some ⟨oc36, od36, .func (PySem.W.fnOf "shortest" "shortest" (defArgs s_shortest) (defBody s_shortest) (defScope s_shortest) .none kV36 dc36 pm36 an36 cd36 ct36), sl36⟩) (c36 : PySem.W.codeIn K cd36 "shortest" = true) (k36 : PySem.W.keepIn K (.ref f_shortest) = true)
   {od37 an37 : Option Addr} {sl37 : Array (Option Value)} {oc37 kV37 dc37 pm37 cd37 ct37 : Value}
   (a37 : PySem.W.nsIn K mainGlobals "_law_cell_at" = some (some (.ref f__law_cell_at)))
   (l37 : K.lookup f__law_cell_at = some ⟨oc37, od37, .func (PySem.W.fnOf "_law_cell_at" "_law_cell_at" (defArgs s__law_cell_at) (defBody s__law_cell_at) (defScope s__law_cell_at) .none kV37 dc37 pm37 an37 cd37 ct37), sl37⟩) (c37 : PySem.W.codeIn K cd37 "_law_cell_at" = true) (k37 : PySem.W.keepIn K (.ref f__law_cell_at) = true)
   {od38 an38 : Option Addr} {sl38 : Array (Option Value)} {oc38 kV38 dc38 pm38 cd38 ct38 : Value}
   (a38 : PySem.W.nsIn K mainGlobals "_law_mixed" = some (some (.ref f__law_mixed)))
   (l38 : K.lookup f__law_mixed = some ⟨oc38, od38, .func (PySem.W.fnOf "_law_mixed" "_law_mixed" (defArgs s__law_mixed) (defBody s__law_mixed) (defScope s__law_mixed) .none kV38 dc38 pm38 an38 cd38 ct38), sl38⟩) (c38 : PySem.W.codeIn K cd38 "_law_mixed" = true) (k38 : PySem.W.keepIn K (.ref f__law_mixed) = true)
   {od39 an39 : Option Addr} {sl39 : Array (Option Value)} {oc39 kV39 dc39 pm39 cd39 ct39 : Value}
   (a39 : PySem.W.nsIn K mainGlobals "_law_number" = some (some (.ref f__law_number)))
   (l39 : K.lookup f__law_number = some ⟨oc39, od39, .func (PySem.W.fnOf "_law_number" "_law_number" (defArgs s__law_number) (defBody s__law_number) (defScope s__law_number) .none kV39 dc39 pm39 an39 cd39 ct39), sl39⟩) (c39 : PySem.W.codeIn K cd39 "_law_number" = true) (k39 : PySem.W.keepIn K (.ref f__law_number) = true)
   {od40 an40 : Option Addr} {sl40 : Array (Option Value)} {oc40 kV40 dc40 pm40 cd40 ct40 : Value}
   (a40 : PySem.W.nsIn K mainGlobals "_law_some" = some (some (.ref f__law_some)))
   (l40 : K.lookup f__law_some = some ⟨oc40, od40, .func (PySem.W.fnOf "_law_some" "_law_some" (defArgs s__law_some) (defBody s__law_some) (defScope s__law_some) .none kV40 dc40 pm40 an40 cd40 ct40), sl40⟩) (c40 : PySem.W.codeIn K cd40 "_law_some" = true) (k40 : PySem.W.keepIn K (.ref f__law_some) = true)
   {od41 an41 : Option Addr} {sl41 : Array (Option Value)} {oc41 kV41 dc41 pm41 cd41 ct41 : Value}
   (a41 : PySem.W.nsIn K mainGlobals "_law_menus" = some (some (.ref f__law_menus)))
   (l41 : K.lookup f__law_menus = some ⟨oc41, od41, .func (PySem.W.fnOf "_law_menus" "_law_menus" (defArgs s__law_menus) (defBody s__law_menus) (defScope s__law_menus) .none kV41 dc41 pm41 an41 cd41 ct41), sl41⟩) (c41 : PySem.W.codeIn K cd41 "_law_menus" = true) (k41 : PySem.W.keepIn K (.ref f__law_menus) = true)
   {od42 an42 : Option Addr} {sl42 : Array (Option Value)} {oc42 kV42 dc42 pm42 cd42 ct42 : Value}
   (a42 : PySem.W.nsIn K mainGlobals "_law_told" = some (some (.ref f__law_told)))
   (l42 : K.lookup f__law_told = some ⟨oc42, od42, .func (PySem.W.fnOf "_law_told" "_law_told" (defArgs s__law_told) (defBody s__law_told) (defScope s__law_told) .none kV42 dc42 pm42 an42 cd42 ct42), sl42⟩) (c42 : PySem.W.codeIn K cd42 "_law_told" = true) (k42 : PySem.W.keepIn K (.ref f__law_told) = true)
   {od43 an43 : Option Addr} {sl43 : Array (Option Value)} {oc43 kV43 dc43 pm43 cd43 ct43 : Value}
   (a43 : PySem.W.nsIn K mainGlobals "_law_made" = some (some (.ref f__law_made)))
   (l43 : K.lookup f__law_made = some ⟨oc43, od43, .func (PySem.W.fnOf "_law_made" "_law_made" (defArgs s__law_made) (defBody s__law_made) (defScope s__law_made) .none kV43 dc43 pm43 an43 cd43 ct43), sl43⟩) (c43 : PySem.W.codeIn K cd43 "_law_made" = true) (k43 : PySem.W.keepIn K (.ref f__law_made) = true)
   {od44 an44 : Option Addr} {sl44 : Array (Option Value)} {oc44 kV44 dc44 pm44 cd44 ct44 : Value}
   (a44 : PySem.W.nsIn K mainGlobals "_law_row" = some (some (.ref f__law_row)))
   (l44 : K.lookup f__law_row = some ⟨oc44, od44, .func (PySem.W.fnOf "_law_row" "_law_row" (defArgs s__law_row) (defBody s__law_row) (defScope s__law_row) .none kV44 dc44 pm44 an44 cd44 ct44), sl44⟩) (c44 : PySem.W.codeIn K cd44 "_law_row" = true) (k44 : PySem.W.keepIn K (.ref f__law_row) = true)
   {od45 an45 : Option Addr} {sl45 : Array (Option Value)} {oc45 kV45 dc45 pm45 cd45 ct45 : Value}
   (a45 : PySem.W.nsIn K mainGlobals "_law_written" = some (some (.ref f__law_written)))
   (l45 : K.lookup f__law_written = some ⟨oc45, od45, .func (PySem.W.fnOf "_law_written" "_law_written" (defArgs s__law_written) (defBody s__law_written) (defScope s__law_written) .none kV45 dc45 pm45 an45 cd45 ct45), sl45⟩) (c45 : PySem.W.codeIn K cd45 "_law_written" = true) (k45 : PySem.W.keepIn K (.ref f__law_written) = true)
   {od46 an46 : Option Addr} {sl46 : Array (Option Value)} {oc46 kV46 dc46 pm46 cd46 ct46 : Value}
   (a46 : PySem.W.nsIn K mainGlobals "_law_first" = some (some (.ref f__law_first)))
   (l46 : K.lookup f__law_first = some ⟨oc46, od46, .func (PySem.W.fnOf "_law_first" "_law_first" (defArgs s__law_first) (defBody s__law_first) (defScope s__law_first) .none kV46 dc46 pm46 an46 cd46 ct46), sl46⟩) (c46 : PySem.W.codeIn K cd46 "_law_first" = true) (k46 : PySem.W.keepIn K (.ref f__law_first) = true)
   {od47 an47 : Option Addr} {sl47 : Array (Option Value)} {oc47 kV47 dc47 pm47 cd47 ct47 : Value}
   (a47 : PySem.W.nsIn K mainGlobals "_law_right" = some (some (.ref f__law_right)))
   (l47 : K.lookup f__law_right = some ⟨oc47, od47, .func (PySem.W.fnOf "_law_right" "_law_right" (defArgs s__law_right) (defBody s__law_right) (defScope s__law_right) .none kV47 dc47 pm47 an47 cd47 ct47), sl47⟩) (c47 : PySem.W.codeIn K cd47 "_law_right" = true) (k47 : PySem.W.keepIn K (.ref f__law_right) = true)
   {od48 an48 : Option Addr} {sl48 : Array (Option Value)} {oc48 kV48 dc48 pm48 cd48 ct48 : Value}
   (a48 : PySem.W.nsIn K mainGlobals "law" = some (some (.ref f_law)))
   (l48 : K.lookup f_law = some ⟨oc48, od48, .func (PySem.W.fnOf "law" "law" (defArgs s_law) (defBody s_law) (defScope s_law) .none kV48 dc48 pm48 an48 cd48 ct48), sl48⟩) (c48 : PySem.W.codeIn K cd48 "law" = true) (k48 : PySem.W.keepIn K (.ref f_law) = true)
   (pg_Dialect : PySem.W.plainGet K C_Dialect Str.empty = true) (hd_Dialect : PySem.W.hasDictIn K C_Dialect = true) (po_Dialect : PySem.W.plainOver K C_Dialect = true) (sa_Dialect : PySem.W.findIn K (.ref C_Dialect) "__setattr__" = some (some (.builtin "object.__setattr__"))) (mk_Dialect : PySem.W.makesIn K C_Dialect = true) (kc_Dialect : PySem.W.keepIn K (.ref C_Dialect) = true)
   (n_Dialect_parts : PySem.W.findIn K (.ref C_Dialect) "parts" = some none)
   (n_Dialect_quotes : PySem.W.findIn K (.ref C_Dialect) "quotes" = some none)
   (n_Dialect_frees : PySem.W.findIn K (.ref C_Dialect) "frees" = some none)
   (n_Dialect_twin : PySem.W.findIn K (.ref C_Dialect) "twin" = some none)
   (n_Dialect_wide : PySem.W.findIn K (.ref C_Dialect) "wide" = some none)
   (n_Dialect_thin : PySem.W.findIn K (.ref C_Dialect) "thin" = some none)
   (n_Dialect_stray : PySem.W.findIn K (.ref C_Dialect) "stray" = some none)
   (pg_Turn : PySem.W.plainGet K C_Turn Str.empty = true) (hd_Turn : PySem.W.hasDictIn K C_Turn = true) (po_Turn : PySem.W.plainOver K C_Turn = true) (sa_Turn : PySem.W.findIn K (.ref C_Turn) "__setattr__" = some (some (.builtin "object.__setattr__"))) (mk_Turn : PySem.W.makesIn K C_Turn = true) (kc_Turn : PySem.W.keepIn K (.ref C_Turn) = true)
   (n_Turn_dialect : PySem.W.findIn K (.ref C_Turn) "dialect" = some none)
   (pg_Marker : PySem.W.plainGet K C_Marker Str.empty = true) (hd_Marker : PySem.W.hasDictIn K C_Marker = true) (po_Marker : PySem.W.plainOver K C_Marker = true) (sa_Marker : PySem.W.findIn K (.ref C_Marker) "__setattr__" = some (some (.builtin "object.__setattr__"))) (mk_Marker : PySem.W.makesIn K C_Marker = true) (kc_Marker : PySem.W.keepIn K (.ref C_Marker) = true)
   (n_Marker_turn : PySem.W.findIn K (.ref C_Marker) "turn" = some none)
   (n_Marker_tokens : PySem.W.findIn K (.ref C_Marker) "tokens" = some none)
   (pg_Writer : PySem.W.plainGet K C_Writer Str.empty = true) (hd_Writer : PySem.W.hasDictIn K C_Writer = true) (po_Writer : PySem.W.plainOver K C_Writer = true) (sa_Writer : PySem.W.findIn K (.ref C_Writer) "__setattr__" = some (some (.builtin "object.__setattr__"))) (mk_Writer : PySem.W.makesIn K C_Writer = true) (kc_Writer : PySem.W.keepIn K (.ref C_Writer) = true)
   (n_Writer_marker : PySem.W.findIn K (.ref C_Writer) "marker" = some none)
   (n_Writer_tokens : PySem.W.findIn K (.ref C_Writer) "tokens" = some none)
   (n_Writer_usual : PySem.W.findIn K (.ref C_Writer) "usual" = some none)
   {nm_DialectError qx_DialectError : Str} {bs_DialectError sub_DialectError : List Value} {hd_xDialectError ab_DialectError : Bool} {sn_DialectError : List Str} {col_DialectError : Option Bool} {dd_DialectError odn_DialectError : Option Addr} {k0_DialectError k1_DialectError k2_DialectError k3_DialectError k5_DialectError : Option Value} {ocn_DialectError : Value} {esn_DialectError : Array DictEntry} {nn_DialectError : Nat} {sln_DialectError : Array (Option Value)}
   (ox_DialectError : K.lookup C_DialectError = some (excClassObj nm_DialectError qx_DialectError C_DialectError N_DialectError bs_DialectError bmVE hd_xDialectError sn_DialectError sub_DialectError ab_DialectError col_DialectError dd_DialectError k0_DialectError k1_DialectError k2_DialectError k3_DialectError k5_DialectError "ValueError.__new__"))
   (nx_DialectError : K.lookup N_DialectError = some ⟨ocn_DialectError, odn_DialectError, .dict esn_DialectError nn_DialectError, sln_DialectError⟩) (w_ax_DialectError : (esn_DialectError.toList.all fun e => match e.key with | .str _ _ => true | _ => false) = true) (ix_DialectError : PySem.W.nsIn K N_DialectError "__init__" = some none)
   (xs_DialectError : PySem.W.specialIn K (.ref C_DialectError) "__getattribute__" = some (some (.builtin "type.__getattribute__"))) (xr_DialectError : PySem.W.readsIn K C_DialectError (.type "type") = true) (xc_DialectError : PySem.W.findCls K (.ref C_DialectError) (.type "type") "__init__" = some (.val (.builtin "ValueError.__init__")))
   {nm_NoWriting qx_NoWriting : Str} {bs_NoWriting sub_NoWriting : List Value} {hd_xNoWriting ab_NoWriting : Bool} {sn_NoWriting : List Str} {col_NoWriting : Option Bool} {dd_NoWriting odn_NoWriting : Option Addr} {k0_NoWriting k1_NoWriting k2_NoWriting k3_NoWriting k5_NoWriting : Option Value} {ocn_NoWriting : Value} {esn_NoWriting : Array DictEntry} {nn_NoWriting : Nat} {sln_NoWriting : Array (Option Value)}
   (ox_NoWriting : K.lookup C_NoWriting = some (excClassObj nm_NoWriting qx_NoWriting C_NoWriting N_NoWriting bs_NoWriting (.ref C_DialectError :: bmVE) hd_xNoWriting sn_NoWriting sub_NoWriting ab_NoWriting col_NoWriting dd_NoWriting k0_NoWriting k1_NoWriting k2_NoWriting k3_NoWriting k5_NoWriting "ValueError.__new__"))
   (nx_NoWriting : K.lookup N_NoWriting = some ⟨ocn_NoWriting, odn_NoWriting, .dict esn_NoWriting nn_NoWriting, sln_NoWriting⟩) (w_ax_NoWriting : (esn_NoWriting.toList.all fun e => match e.key with | .str _ _ => true | _ => false) = true) (ix_NoWriting : PySem.W.nsIn K N_NoWriting "__init__" = some (some (.ref f_NoWriting___init__)))
   {odx_NoWriting : Option Addr} {dtx_NoWriting : Data} {slx_NoWriting : Array (Option Value)} (kx_NoWriting : PySem.W.keepIn K (.ref C_NoWriting) = true) (lx_NoWriting : K.lookup f_NoWriting___init__ = some ⟨.type "function", odx_NoWriting, dtx_NoWriting, slx_NoWriting⟩) (xsa_NoWriting : PySem.W.findIn K (.ref C_NoWriting) "__setattr__" = some (some (.builtin "object.__setattr__"))) (xga_NoWriting : PySem.W.findIn K (.ref C_NoWriting) "__getattribute__" = some (some (.builtin "BaseException.__getattribute__"))) (xgx_NoWriting : PySem.W.findIn K (.ref C_NoWriting) "__getattr__" = some none) (xhd_NoWriting : PySem.W.hasDictIn K C_NoWriting = true)
   (xn_NoWriting_row : PySem.W.findIn K (.ref C_NoWriting) "row" = some none)
   (xn_NoWriting_cell : PySem.W.findIn K (.ref C_NoWriting) "cell" = some none)
   (z_all : PySem.W.nsIn K mainGlobals "all" = some none)
   (z_bool : PySem.W.nsIn K mainGlobals "bool" = some none)
   (z_enumerate : PySem.W.nsIn K mainGlobals "enumerate" = some none)
   (z_isinstance : PySem.W.nsIn K mainGlobals "isinstance" = some none)
   (z_len : PySem.W.nsIn K mainGlobals "len" = some none)
   (z_list : PySem.W.nsIn K mainGlobals "list" = some none)
   (z_max : PySem.W.nsIn K mainGlobals "max" = some none)
   (z_ord : PySem.W.nsIn K mainGlobals "ord" = some none)
   (z_range : PySem.W.nsIn K mainGlobals "range" = some none)
   (z_reversed : PySem.W.nsIn K mainGlobals "reversed" = some none)
   (z_str : PySem.W.nsIn K mainGlobals "str" = some none)
   (z_sum : PySem.W.nsIn K mainGlobals "sum" = some none)
   (z_tuple : PySem.W.nsIn K mainGlobals "tuple" = some none)
   {tk_LINE : Tok} (v_LINE : PySem.W.nsIn K mainGlobals "LINE" = some (some (.str z_LINE tk_LINE))) (w_LINE : z_LINE = Str.ofString "\n")
   {tk_MOST_ROWS : Tok} (v_MOST_ROWS : PySem.W.nsIn K mainGlobals "MOST_ROWS" = some (some (.int 60 tk_MOST_ROWS)))
   {tk_MOST_CELLS : Tok} (v_MOST_CELLS : PySem.W.nsIn K mainGlobals "MOST_CELLS" = some (some (.int 20 tk_MOST_CELLS)))
   {tk_MOST_SIGNS_IN_CELLS : Tok} (v_MOST_SIGNS_IN_CELLS : PySem.W.nsIn K mainGlobals "MOST_SIGNS_IN_CELLS" = some (some (.int 400 tk_MOST_SIGNS_IN_CELLS)))
   (v_START : PySem.W.nsIn K mainGlobals "START" = some (some (.ref a_START)))
   {od_START : Option Addr} {n_START : Nat} {sl_START : Array (Option Value)} {t0_START t1_START : Tok} (t_START : K.lookup a_START = some ⟨.type "tuple", od_START, .seq #[.str (Str.ofString "row") t0_START, .str (Str.ofString "") t1_START] n_START, sl_START⟩)
   (v_PART : PySem.W.nsIn K mainGlobals "PART" = some (some (.ref a_PART)))
   {od_PART : Option Addr} {n_PART : Nat} {sl_PART : Array (Option Value)} {t0_PART t1_PART : Tok} (t_PART : K.lookup a_PART = some ⟨.type "tuple", od_PART, .seq #[.str (Str.ofString "part") t0_PART, .str (Str.ofString "") t1_PART] n_PART, sl_PART⟩)
   (v_END : PySem.W.nsIn K mainGlobals "END" = some (some (.ref a_END)))
   {od_END : Option Addr} {n_END : Nat} {sl_END : Array (Option Value)} {t0_END t1_END : Tok} (t_END : K.lookup a_END = some ⟨.type "tuple", od_END, .seq #[.str (Str.ofString "end") t0_END, .str (Str.ofString "") t1_END] n_END, sl_END⟩) :
   ∃ fd : FuncData, (∀ (s : Shared) (v : Value), BindsTo s fd ⟨[v], []⟩ [("_law_script", v)]) ∧ ∀ base : Heap, K.In base → base.Ns mainGlobals mg → FnOk l.prog w K mg base CX0 16 fa fd ["_law_script"] (sp_law K) := by
 have e := hfa.symm.trans (PySem.W.mg_of X G a48)
 cases e
 have F0 := fun_mk (st := s_is_printable) l0 c0 k0
 have b0 := F0.binds (ps := ["sign"]) fun _ _ _ _ _ _ us hl => match us, hl with | [_], _ => rfl
 have F1 := fun_mk (st := s_has_signs_alone) l1 c1 k1
 have b1 := F1.binds (ps := ["text"]) fun _ _ _ _ _ _ us hl => match us, hl with | [_], _ => rfl
 have F2 := fun_mk (st := s_are_unlike_signs) l2 c2 k2
 have b2 := F2.binds (ps := ["thing", "least", "most"]) fun _ _ _ _ _ _ us hl => match us, hl with | [_, _, _], _ => rfl
 have F3 := funD_mk (st := s_Dialect___init__) l3 c3 k3
 have b3 : Binds K (PySem.W.fnOf "__init__" "Dialect.__init__" (defArgs s_Dialect___init__) (defBody s_Dialect___init__) (defScope s_Dialect___init__) (.ref dt_Dialect___init__) kV3 dc3 pm3 an3 cd3 ct3) ["self", "parts", "quotes", "frees", "twin", "wide", "thin", "stray"] [] := fun s us hK hl => match us, hl with | [_, _, _, _, _, _, _, _], _ => BindsTo.of_defaults (T := dt_Dialect___init__) rfl (hK _ _ d3) rfl rfl rfl
 have F4 := fun_mk (st := s_Dialect_told) l4 c4 k4
 have b4 := F4.binds (ps := ["self"]) fun _ _ _ _ _ _ us hl => match us, hl with | [_], _ => rfl
 have F5 := fun_mk (st := s_dialect_of) l5 c5 k5
 have b5 := F5.binds (ps := ["told"]) fun _ _ _ _ _ _ us hl => match us, hl with | [_], _ => rfl
 have F6 := fun_mk (st := s_step_at_beginning) l6 c6 k6
 have b6 := F6.binds (ps := ["dialect", "state", "sign"]) fun _ _ _ _ _ _ us hl => match us, hl with | [_, _, _], _ => rfl
 have F7 := fun_mk (st := s_step_in_plain) l7 c7 k7
 have b7 := F7.binds (ps := ["dialect", "sign"]) fun _ _ _ _ _ _ us hl => match us, hl with | [_, _], _ => rfl
 have F8 := fun_mk (st := s_step_within) l8 c8 k8
 have b8 := F8.binds (ps := ["dialect", "quote", "sign"]) fun _ _ _ _ _ _ us hl => match us, hl with | [_, _, _], _ => rfl
 have F9 := fun_mk (st := s_step_behind) l9 c9 k9
 have b9 := F9.binds (ps := ["dialect", "sign"]) fun _ _ _ _ _ _ us hl => match us, hl with | [_, _], _ => rfl
 have F10 := fun_mk (st := s_step_in_doubt) l10 c10 k10
 have b10 := F10.binds (ps := ["dialect", "quote", "sign"]) fun _ _ _ _ _ _ us hl => match us, hl with | [_, _, _], _ => rfl
 have F11 := fun_mk (st := s_step_freed) l11 c11 k11
 have b11 := F11.binds (ps := ["dialect", "quote", "sign"]) fun _ _ _ _ _ _ us hl => match us, hl with | [_, _, _], _ => rfl
 have F12 := fun_mk (st := s_Turn___init__) l12 c12 k12
 have b12 := F12.binds (ps := ["self", "dialect"]) fun _ _ _ _ _ _ us hl => match us, hl with | [_, _], _ => rfl
 have F13 := fun_mk (st := s_Turn_step) l13 c13 k13
 have b13 := F13.binds (ps := ["self", "state", "sign"]) fun _ _ _ _ _ _ us hl => match us, hl with | [_, _, _], _ => rfl
 have F14 := fun_mk (st := s_once) l14 c14 k14
 have b14 := F14.binds (ps := ["text"]) fun _ _ _ _ _ _ us hl => match us, hl with | [_], _ => rfl
 have F15 := fun_mk (st := s_Dialect_special) l15 c15 k15
 have b15 := F15.binds (ps := ["self"]) fun _ _ _ _ _ _ us hl => match us, hl with | [_], _ => rfl
 have F16 := fun_mk (st := s_is_live) l16 c16 k16
 have b16 := F16.binds (ps := ["dialect", "state"]) fun _ _ _ _ _ _ us hl => match us, hl with | [_, _], _ => rfl
 have F17 := fun_mk (st := s_Turn_live_step) l17 c17 k17
 have b17 := F17.binds (ps := ["self", "state", "sign"]) fun _ _ _ _ _ _ us hl => match us, hl with | [_, _, _], _ => rfl
 have F18 := fun_mk (st := s_count_behind) l18 c18 k18
 have b18 := F18.binds (ps := ["tokens", "count", "kind", "sign"]) fun _ _ _ _ _ _ us hl => match us, hl with | [_, _, _, _], _ => rfl
 have F19 := fun_mk (st := s_Marker___init__) l19 c19 k19
 have b19 := F19.binds (ps := ["self", "dialect", "tokens"]) fun _ _ _ _ _ _ us hl => match us, hl with | [_, _, _], _ => rfl
 have F20 := fun_mk (st := s_Marker_mark_behind) l20 c20 k20
 have b20 := F20.binds (ps := ["self", "mark", "sign"]) fun _ _ _ _ _ _ us hl => match us, hl with | [_, _, _], _ => rfl
 have F21 := fun_mk (st := s_Marker_has_read_all) l21 c21 k21
 have b21 := F21.binds (ps := ["self", "mark"]) fun _ _ _ _ _ _ us hl => match us, hl with | [_, _], _ => rfl
 have F22 := fun_mk (st := s_Writer___init__) l22 c22 k22
 have b22 := F22.binds (ps := ["self", "dialect", "tokens"]) fun _ _ _ _ _ _ us hl => match us, hl with | [_, _, _], _ => rfl
 have F23 := fun_mk (st := s_Writer_leads) l23 c23 k23
 have b23 := F23.binds (ps := ["self", "place"]) fun _ _ _ _ _ _ us hl => match us, hl with | [_, _], _ => rfl
 have F24 := fun_mk (st := s_Writer_is_good) l24 c24 k24
 have b24 := F24.binds (ps := ["self", "place"]) fun _ _ _ _ _ _ us hl => match us, hl with | [_, _], _ => rfl
 have F25 := funD_mk (st := s_search) l25 c25 k25
 have b25 : Binds K (PySem.W.fnOf "search" "search" (defArgs s_search) (defBody s_search) (defScope s_search) (.ref dt_search) kV25 dc25 pm25 an25 cd25 ct25) ["first", "searched", "most"] [] := fun s us hK hl => match us, hl with | [_, _, _], _ => BindsTo.of_defaults (T := dt_search) rfl (hK _ _ d25) rfl rfl rfl
 have F26 := fun_mk (st := s_text_to) l26 c26 k26
 have b26 := F26.binds (ps := ["came", "place"]) fun _ _ _ _ _ _ us hl => match us, hl with | [_, _], _ => rfl
 have F27 := fun_mk (st := s_is_cell) l27 c27 k27
 have b27 := F27.binds (ps := ["thing"]) fun _ _ _ _ _ _ us hl => match us, hl with | [_], _ => rfl
 have F28 := fun_mk (st := s_is_row) l28 c28 k28
 have b28 := F28.binds (ps := ["thing"]) fun _ _ _ _ _ _ us hl => match us, hl with | [_], _ => rfl
 have F29 := fun_mk (st := s_signs_in_row) l29 c29 k29
 have b29 := F29.binds (ps := ["row"]) fun _ _ _ _ _ _ us hl => match us, hl with | [_], _ => rfl
 have F30 := fun_mk (st := s_is_table) l30 c30 k30
 have b30 := F30.binds (ps := ["thing"]) fun _ _ _ _ _ _ us hl => match us, hl with | [_], _ => rfl
 have F31 := fun_mk (st := s_check_table) l31 c31 k31
 have b31 := F31.binds (ps := ["thing"]) fun _ _ _ _ _ _ us hl => match us, hl with | [_], _ => rfl
 have F32 := fun_mk (st := s_tokens_of_row) l32 c32 k32
 have b32 := F32.binds (ps := ["row"]) fun _ _ _ _ _ _ us hl => match us, hl with | [_], _ => rfl
 have F33 := fun_mk (st := s_tokens_of) l33 c33 k33
 have b33 := F33.binds (ps := ["table"]) fun _ _ _ _ _ _ us hl => match us, hl with | [_], _ => rfl
 have F34 := fun_mk (st := s_cell_at) l34 c34 k34
 have b34 := F34.binds (ps := ["tokens", "count"]) fun _ _ _ _ _ _ us hl => match us, hl with | [_, _], _ => rfl
 have F35 := fun_mk (st := s_NoWriting___init__) l35 c35 k35
 have b35 := F35.binds (ps := ["self", "row", "cell"]) fun _ _ _ _ _ _ us hl => match us, hl with | [_, _, _], _ => rfl
 have F36 := fun_mk (st := s_shortest) l36 c36 k36
 have b36 := F36.binds (ps := ["dialect", "table"]) fun _ _ _ _ _ _ us hl => match us, hl with | [_, _], _ => rfl
 have F37 := fun_mk (st := s__law_cell_at) l37 c37 k37
 have b37 := F37.binds (ps := ["_law_script", "_law_k"]) fun _ _ _ _ _ _ us hl => match us, hl with | [_, _], _ => rfl
 have F38 := fun_mk (st := s__law_mixed) l38 c38 k38
 have b38 := F38.binds (ps := ["_law_number_here", "_law_salt"]) fun _ _ _ _ _ _ us hl => match us, hl with | [_, _], _ => rfl
 have F39 := fun_mk (st := s__law_number) l39 c39 k39
 have b39 := F39.binds (ps := ["_law_cell", "_law_salt"]) fun _ _ _ _ _ _ us hl => match us, hl with | [_, _], _ => rfl
 have F40 := fun_mk (st := s__law_some) l40 c40 k40
 have b40 := F40.binds (ps := ["_law_number_here", "_law_many", "_law_menu"]) fun _ _ _ _ _ _ us hl => match us, hl with | [_, _, _], _ => rfl
 have F41 := fun_mk (st := s__law_menus) l41 c41 k41
 have b41 := F41.binds (ps := ["_law_way"]) fun _ _ _ _ _ _ us hl => match us, hl with | [_], _ => rfl
 have F42 := fun_mk (st := s__law_told) l42 c42 k42
 have b42 := F42.binds (ps := ["_law_cell"]) fun _ _ _ _ _ _ us hl => match us, hl with | [_], _ => rfl
 have F43 := fun_mk (st := s__law_made) l43 c43 k43
 have b43 := F43.binds (ps := ["_law_told_here"]) fun _ _ _ _ _ _ us hl => match us, hl with | [_], _ => rfl
 have F44 := fun_mk (st := s__law_row) l44 c44 k44
 have b44 := F44.binds (ps := ["_law_told_here", "_law_cell", "_law_salt", "_law_most"]) fun _ _ _ _ _ _ us hl => match us, hl with | [_, _, _, _], _ => rfl
 have F45 := fun_mk (st := s__law_written) l45 c45 k45
 have b45 := F45.binds (ps := ["_law_made_here", "_law_table"]) fun _ _ _ _ _ _ us hl => match us, hl with | [_, _], _ => rfl
 have F46 := fun_mk (st := s__law_first) l46 c46 k46
 have b46 := F46.binds (ps := ["_law_made_here", "_law_row_here"]) fun _ _ _ _ _ _ us hl => match us, hl with | [_, _], _ => rfl
 have F47 := fun_mk (st := s__law_right) l47 c47 k47
 have b47 := F47.binds (ps := ["_law_made_here", "_law_row_here"]) fun _ _ _ _ _ _ us hl => match us, hl with | [_, _], _ => rfl
 have F48 := fun_mk (st := s_law) l48 c48 k48
 have b48 := F48.binds (ps := ["_law_script"]) fun _ _ _ _ _ _ us hl => match us, hl with | [_], _ => rfl
 have bf0 : ∃ ds, Vals [V.non] ds ∧ Binds K (PySem.W.fnOf "search" "search" (defArgs s_search) (defBody s_search) (defScope s_search) (.ref dt_search) kV25 dc25 pm25 an25 cd25 ct25) ["first", "searched", "most"] ds := ⟨[.none], (.cons rfl .nil), fun s us hK hl => by
   have hn : us.length = 2 := by rw [List.length_append] at hl; simp only [List.length_cons, List.length_nil] at hl; omega
   exact match us, hn with | [_, _], _ => BindsTo.of_defaults (T := dt_search) rfl (hK _ _ d25) rfl rfl rfl⟩
 exact ⟨PySem.W.fnOf "law" "law" (defArgs s_law) (defBody s_law) (defScope s_law) .none kV48 dc48 pm48 an48 cd48 ct48, fun s v => .of_eq rfl, fun base _ _ => ok_law ⟨F0, b0, PySem.W.mg_of X G a0,
   F1, b1, PySem.W.mg_of X G a1,
   F2, b2, PySem.W.mg_of X G a2,
   F3, b3,
   F4, b4, ⟨a4, i4, k4⟩,
   F5, b5, PySem.W.mg_of X G a5,
   F6, b6, PySem.W.mg_of X G a6,
   F7, b7, PySem.W.mg_of X G a7,
   F8, b8, PySem.W.mg_of X G a8,
   F9, b9, PySem.W.mg_of X G a9,
   F10, b10, PySem.W.mg_of X G a10,
   F11, b11, PySem.W.mg_of X G a11,
   F12, b12,
   F13, b13, ⟨a13, i13, k13⟩,
   F14, b14, PySem.W.mg_of X G a14,
   F15, b15, ⟨a15, i15, k15⟩,
   F16, b16, PySem.W.mg_of X G a16,
   F17, b17, ⟨a17, i17, k17⟩,
   F18, b18, PySem.W.mg_of X G a18,
   F19, b19,
   F20, b20, ⟨a20, i20, k20⟩,
   F21, b21, ⟨a21, i21, k21⟩,
   F22, b22,
   F23, b23, ⟨a23, i23, k23⟩,
   F24, b24, ⟨a24, i24, k24⟩,
   F25, b25, PySem.W.mg_of X G a25,
   F26, b26, PySem.W.mg_of X G a26,
   F27, b27, PySem.W.mg_of X G a27,
   F28, b28, PySem.W.mg_of X G a28,
   F29, b29, PySem.W.mg_of X G a29,
   F30, b30, PySem.W.mg_of X G a30,
   F31, b31, PySem.W.mg_of X G a31,
   F32, b32, PySem.W.mg_of X G a32,
   F33, b33, PySem.W.mg_of X G a33,
   F34, b34, PySem.W.mg_of X G a34,
   F35, b35,
   F36, b36, PySem.W.mg_of X G a36,
   F37, b37, PySem.W.mg_of X G a37,
   F38, b38, PySem.W.mg_of X G a38,
   F39, b39, PySem.W.mg_of X G a39,
   F40, b40, PySem.W.mg_of X G a40,
   F41, b41, PySem.W.mg_of X G a41,
   F42, b42, PySem.W.mg_of X G a42,
   F43, b43, PySem.W.mg_of X G a43,
   F44, b44, PySem.W.mg_of X G a44,
   F45, b45, PySem.W.mg_of X G a45,
   F46, b46, PySem.W.mg_of X G a46,
   F47, b47, PySem.W.mg_of X G a47,
   F48, b48, PySem.W.mg_of X G a48,
   ⟨pg_Dialect, hd_Dialect, po_Dialect, sa_Dialect⟩, PySem.W.mg_of X G aC_Dialect, ⟨mk_Dialect, a3, i3, kc_Dialect⟩,
   n_Dialect_parts,
   n_Dialect_quotes,
   n_Dialect_frees,
   n_Dialect_twin,
   n_Dialect_wide,
   n_Dialect_thin,
   n_Dialect_stray,
   ⟨pg_Turn, hd_Turn, po_Turn, sa_Turn⟩, PySem.W.mg_of X G aC_Turn, ⟨mk_Turn, a12, i12, kc_Turn⟩,
   n_Turn_dialect,
   ⟨pg_Marker, hd_Marker, po_Marker, sa_Marker⟩, PySem.W.mg_of X G aC_Marker, ⟨mk_Marker, a19, i19, kc_Marker⟩,
   n_Marker_turn,
   n_Marker_tokens,
   ⟨pg_Writer, hd_Writer, po_Writer, sa_Writer⟩, PySem.W.mg_of X G aC_Writer, ⟨mk_Writer, a22, i22, kc_Writer⟩,
   n_Writer_marker,
   n_Writer_tokens,
   n_Writer_usual,
   bf0,
   PySem.W.mg_of X G aX_DialectError, ⟨⟨_, _, _, _, _, _, _, _, _, _, _, _, _, _, ox_DialectError⟩, ⟨_, _, _, _, _, nx_DialectError, w_ax_DialectError⟩, ix_DialectError⟩,
   ⟨xs_DialectError, xr_DialectError, xc_DialectError⟩,
   PySem.W.mg_of X G aX_NoWriting, ⟨⟨_, _, _, _, _, _, _, _, _, _, _, _, _, _, ox_NoWriting⟩, ⟨_, _, _, _, _, nx_NoWriting, w_ax_NoWriting⟩, ix_NoWriting⟩,
   kx_NoWriting, ⟨_, lx_NoWriting, rfl⟩,
   ⟨xn_NoWriting_row, xsa_NoWriting, xga_NoWriting, xgx_NoWriting, xhd_NoWriting⟩,
   ⟨xn_NoWriting_cell, xsa_NoWriting, xga_NoWriting, xgx_NoWriting, xhd_NoWriting⟩,
   PySem.W.mg_none_of X G z_all,
   PySem.W.mg_none_of X G z_bool,
   PySem.W.mg_none_of X G z_enumerate,
   PySem.W.mg_none_of X G z_isinstance,
   PySem.W.mg_none_of X G z_len,
   PySem.W.mg_none_of X G z_list,
   PySem.W.mg_none_of X G z_max,
   PySem.W.mg_none_of X G z_ord,
   PySem.W.mg_none_of X G z_range,
   PySem.W.mg_none_of X G z_reversed,
   PySem.W.mg_none_of X G z_str,
   PySem.W.mg_none_of X G z_sum,
   PySem.W.mg_none_of X G z_tuple,
   ⟨_, PySem.W.mg_of X G v_LINE⟩, w_LINE,
   ⟨_, PySem.W.mg_of X G v_MOST_ROWS⟩,
   ⟨_, PySem.W.mg_of X G v_MOST_CELLS⟩,
   ⟨_, PySem.W.mg_of X G v_MOST_SIGNS_IN_CELLS⟩,
   PySem.W.mg_of X G v_START, ⟨_, _, _, t_START, rfl, rfl, (by show 2 ≤ sizeLine; decide), (.cons ⟨_, rfl⟩ (.cons ⟨_, rfl⟩ .nil))⟩,
   PySem.W.mg_of X G v_PART, ⟨_, _, _, t_PART, rfl, rfl, (by show 2 ≤ sizeLine; decide), (.cons ⟨_, rfl⟩ (.cons ⟨_, rfl⟩ .nil))⟩,
   PySem.W.mg_of X G v_END, ⟨_, _, _, t_END, rfl, rfl, (by show 2 ≤ sizeLine; decide), (.cons ⟨_, rfl⟩ (.cons ⟨_, rfl⟩ .nil))⟩⟩⟩
theorem walk {l : PySem.W.OpenLaw} {q : Program} {loose : List Str} {XP : (Str → Option Value) → Heap → Prop} {YP : World → Heap → Prop} {d : DefRec} {K : Params → PySem.W.Frag} (hn : l.most = some 63) (hdf : d.params.defaults = [])
   (hY : ∀ (w : World) (h : Heap), YP w h → (K w.params).In h)
   (F : ∀ (w : World) (mg : Str → Option Value) (fa : Addr) (h : Heap), (K w.params).In h → h.Ns mainGlobals mg → mg d.name = some (.ref fa) →
     ∃ fd : FuncData, (∀ (s : Shared) (u : Value), BindsTo s fd ⟨[u], []⟩ [("_law_script", u)]) ∧ ∀ base : Heap, (K w.params).In base → base.Ns mainGlobals mg → FnOk l.prog w (K w.params) mg base CX0 16 fa fd ["_law_script"] (sp_law (K w.params))) :
   PySem.W.WalkO q loose XP YP l.row.toRowW d [] (fun f vs => PySem.call f vs) :=
 L2.walk_of (n := 63) (k := 16) (x := "_law_script") (CX := fun _ => CX0) (sp := fun w => sp_law (K w.params)) hn (by decide) hdf ⟨rfl, by decide, by decide⟩ hY F (fun _ _ a ns hl _ hS => ⟨a, ns, rfl, hS, hl, fun _ => rfl⟩) fun _ _ _ _ _ z => z
end My
def PySem.W.Fast.tw13665100310311293022 : Unit := ()
def PySem.W.Fast.tw4099871632358649440 : Unit := ()
def PySem.W.Fast.tw7722167839696892713 : Unit := ()
def PySem.W.Fast.tw12253126259383578735 : Unit := ()
def PySem.W.Fast.tw3605740011222404357 : Unit := ()
def PySem.W.Fast.tw9341595695145109945 : Unit := ()
def PySem.W.Fast.tw577425165377668450 : Unit := ()
def PySem.W.Fast.tw11560663982743961385 : Unit := ()
def PySem.W.Fast.tw1298825532470555091 : Unit := ()
def PySem.W.Fast.tw5641941242752905371 : Unit := ()
def PySem.W.Fast.tw6543236903566436118 : Unit := ()
def PySem.W.Fast.tw6469600721293349664 : Unit := ()
def PySem.W.Fast.tw8966135956985777175 : Unit := ()
def PySem.W.Fast.tw10403394471500814465 : Unit := ()
def PySem.W.Fast.tw7692140109466367070 : Unit := ()
def PySem.W.Fast.tw17473183662097269388 : Unit := ()
def PySem.W.Fast.tw10423382938257430367 : Unit := ()
def PySem.W.Fast.tw16069576048393676345 : Unit := ()
def PySem.W.Fast.tw8466690226777360991 : Unit := ()
def PySem.W.Fast.tw1885102777612647182 : Unit := ()
def PySem.W.Fast.tw59220675345881086 : Unit := ()
def PySem.W.Fast.tw8889393235737888852 : Unit := ()
def PySem.W.Fast.tw6104878396155950352 : Unit := ()
def PySem.W.Fast.tw7494527072404603055 : Unit := ()
def PySem.W.Fast.tw17149838099388668964 : Unit := ()
def PySem.W.Fast.tw2625412180673505934 : Unit := ()
def PySem.W.Fast.tw2888632117171253071 : Unit := ()
def PySem.W.Fast.tw3723353240307902493 : Unit := ()
def PySem.W.Fast.tw6303975656691548790 : Unit := ()
def PySem.W.Fast.tw136303686525872963 : Unit := ()
def PySem.W.Fast.tw10928804256699336895 : Unit := ()
def PySem.W.Fast.tw4982310284174272154 : Unit := ()
def PySem.W.Fast.tw5342583987508499636 : Unit := ()
def PySem.W.Fast.tw4350671046204800766 : Unit := ()
def PySem.W.Fast.tw17175566901933796690 : Unit := ()
def PySem.W.Fast.tw12233428228244265985 : Unit := ()
def PySem.W.Fast.tw10684742393941899388 : Unit := ()
def PySem.W.Fast.tw7936425370849014907 : Unit := ()
def PySem.W.Fast.tw2979449898034090403 : Unit := ()
def PySem.W.Fast.tw12141848667166081364 : Unit := ()
def PySem.W.Fast.tw17707860196160597819 : Unit := ()
def PySem.W.Fast.tw16858036376876250941 : Unit := ()
def PySem.W.Fast.tw18296336240892544005 : Unit := ()
def PySem.W.Fast.tw13440593964787745142 : Unit := ()
def PySem.W.Fast.tw12682893422800213379 : Unit := ()
def PySem.W.Fast.tw15730293984422362067 : Unit := ()
def PySem.W.Fast.tw11868432298841392457 : Unit := ()
def PySem.W.Fast.tw9486261981758172888 : Unit := ()
def PySem.W.Fast.tw4316784901776967623 : Unit := ()
def PySem.W.Fast.tw11709923086842030576 : Unit := ()
def PySem.W.Fast.tw3396549309015527478 : Unit := ()
def PySem.W.Fast.tw11695108299814498938 : Unit := ()
def PySem.W.Fast.tw1418310840099768152 : Unit := ()
def PySem.W.Fast.tw798177614533055208 : Unit := ()
def PySem.W.Fast.tw10953680035484107373 : Unit := ()
def PySem.W.Fast.tw3085275562335366446 : Unit := ()
def PySem.W.Fast.tw9026871363948932361 : Unit := ()
def PySem.W.Fast.tw5128092989793717026 : Unit := ()
def PySem.W.Fast.tw7899085235666942478 : Unit := ()
def PySem.W.Fast.tw7446607959652339699 : Unit := ()
def PySem.W.Fast.tw8611135664604279429 : Unit := ()
def PySem.W.Fast.tw2115332499991131958 : Unit := ()
def PySem.W.Fast.tw6596023299255045478 : Unit := ()
def PySem.W.Fast.tw15348077079062001797 : Unit := ()
def PySem.W.Fast.tw5169100886499360404 : Unit := ()
def PySem.W.Fast.tw14574623702540289876 : Unit := ()
def PySem.W.Fast.tw2790574496670528924 : Unit := ()
def PySem.W.Fast.tw14657784254798189820 : Unit := ()
def PySem.W.Fast.tw18224902022171477675 : Unit := ()
def PySem.W.Fast.tw1068680138926759400 : Unit := ()
def PySem.W.Fast.tw10218503506505890362 : Unit := ()
def PySem.W.Fast.tw15583925692492968712 : Unit := ()
def PySem.W.Fast.tw6712825477142341633 : Unit := ()
def PySem.W.Fast.tw17463537362836524354 : Unit := ()
open PySem PySem.W PyProof.Rows
set_option maxRecDepth 100000 in
set_option maxHeartbeats 0 in
theorem PySem.Challenge.cw_dialecthall_k45_whole_cells_apart_holds : PySem.Challenge.rw_dialecthall_k45_whole_cells_apart.Holds := by
 w_on; o_law; k_head; (case hw => w_witness2)
 k_fill
 refine My.walk (l := PySem.Challenge.rw_dialecthall_k45_whole_cells_apart) rfl rfl (fun w h Y => PySem.W.kIn_of Y) ?F
 case F =>
   intro w mg fa h KX G hmg
   refine' My.all_mk KX G hmg ?aC_Dialect ?aC_Turn ?aC_Marker ?aC_Writer ?aX_DialectError ?aX_NoWriting ?a0 ?l0 ?c0 ?k0 ?a1 ?l1 ?c1 ?k1 ?a2 ?l2 ?c2 ?k2 ?a3 ?i3 ?l3 ?c3 ?k3 ?d3 ?a4 ?i4 ?l4 ?c4 ?k4 ?a5 ?l5 ?c5 ?k5 ?a6 ?l6 ?c6 ?k6 ?a7 ?l7 ?c7 ?k7 ?a8 ?l8 ?c8 ?k8 ?a9 ?l9 ?c9 ?k9 ?a10 ?l10 ?c10 ?k10 ?a11 ?l11 ?c11 ?k11 ?a12 ?i12 ?l12 ?c12 ?k12 ?a13 ?i13 ?l13 ?c13 ?k13 ?a14 ?l14 ?c14 ?k14 ?a15 ?i15 ?l15 ?c15 ?k15 ?a16 ?l16 ?c16 ?k16 ?a17 ?i17 ?l17 ?c17 ?k17 ?a18 ?l18 ?c18 ?k18 ?a19 ?i19 ?l19 ?c19 ?k19 ?a20 ?i20 ?l20 ?c20 ?k20 ?a21 ?i21 ?l21 ?c21 ?k21 ?a22 ?i22 ?l22 ?c22 ?k22 ?a23 ?i23 ?l23 ?c23 ?k23 ?a24 ?i24 ?l24 ?c24 ?k24 ?a25 ?l25 ?c25 ?k25 ?d25 ?a26 ?l26 ?c26 ?k26 ?a27 ?l27 ?c27 ?k27 ?a28 ?l28 ?c28 ?k28 ?a29 ?l29 ?c29 ?k29 ?a30 ?l30 ?c30 ?k30 ?a31 ?l31 ?c31 ?k31 ?a32 ?l32 ?c32 ?k32 ?a33 ?l33 ?c33 ?k33 ?a34 ?l34 ?c34 ?k34 ?l35 ?c35 ?k35 ?a36 ?l36 ?c36 ?k36 ?a37 ?l37 ?c37 ?k37 ?a38 ?l38 ?c38 ?k38 ?a39 ?l39 ?c39 ?k39 ?a40 ?l40 ?c40 ?k40 ?a41 ?l41 ?c41 ?k41 ?a42 ?l42 ?c42 ?k42 ?a43 ?l43 ?c43 ?k43 ?a44 ?l44 ?c44 ?k44 ?a45 ?l45 ?c45 ?k45 ?a46 ?l46 ?c46 ?k46 ?a47 ?l47 ?c47 ?k47 ?a48 ?l48 ?c48 ?k48 ?pg_Dialect ?hd_Dialect ?po_Dialect ?sa_Dialect ?mk_Dialect ?kc_Dialect ?n_Dialect_parts ?n_Dialect_quotes ?n_Dialect_frees ?n_Dialect_twin ?n_Dialect_wide ?n_Dialect_thin ?n_Dialect_stray ?pg_Turn ?hd_Turn ?po_Turn ?sa_Turn ?mk_Turn ?kc_Turn ?n_Turn_dialect ?pg_Marker ?hd_Marker ?po_Marker ?sa_Marker ?mk_Marker ?kc_Marker ?n_Marker_turn ?n_Marker_tokens ?pg_Writer ?hd_Writer ?po_Writer ?sa_Writer ?mk_Writer ?kc_Writer ?n_Writer_marker ?n_Writer_tokens ?n_Writer_usual ?ox_DialectError ?nx_DialectError ?w_ax_DialectError ?ix_DialectError ?xs_DialectError ?xr_DialectError ?xc_DialectError ?ox_NoWriting ?nx_NoWriting ?w_ax_NoWriting ?ix_NoWriting ?kx_NoWriting ?lx_NoWriting ?xsa_NoWriting ?xga_NoWriting ?xgx_NoWriting ?xhd_NoWriting ?xn_NoWriting_row ?xn_NoWriting_cell ?z_all ?z_bool ?z_enumerate ?z_isinstance ?z_len ?z_list ?z_max ?z_ord ?z_range ?z_reversed ?z_str ?z_sum ?z_tuple ?v_LINE ?w_LINE ?v_MOST_ROWS ?v_MOST_CELLS ?v_MOST_SIGNS_IN_CELLS ?v_START ?t_START ?v_PART ?t_PART ?v_END ?t_END
   (case aX_DialectError => k_is)
   (case aX_NoWriting => k_is)
   (case ox_DialectError => k_is)
   (case nx_DialectError => k_is)
   (case ix_DialectError => k_is)
   (case ox_NoWriting => k_is)
   (case nx_NoWriting => k_is)
   (case ix_NoWriting => k_is)
   (case aC_Dialect => k_is)
   (case aC_Turn => k_is)
   (case aC_Marker => k_is)
   (case aC_Writer => k_is)
   (case a0 => k_is)
   (case l0 => k_is)
   (case c0 => k_is)
   (case k0 => k_is)
   (case a1 => k_is)
   (case l1 => k_is)
   (case c1 => k_is)
   (case k1 => k_is)
   (case a2 => k_is)
   (case l2 => k_is)
   (case c2 => k_is)
   (case k2 => k_is)
   (case a3 => k_is)
   (case i3 => k_is)
   (case l3 => k_is)
   (case c3 => k_is)
   (case k3 => k_is)
   (case d3 => k_is)
   (case a4 => k_is)
   (case i4 => k_is)
   (case l4 => k_is)
   (case c4 => k_is)
   (case k4 => k_is)
   (case a5 => k_is)
   (case l5 => k_is)
   (case c5 => k_is)
   (case k5 => k_is)
   (case a6 => k_is)
   (case l6 => k_is)
   (case c6 => k_is)
   (case k6 => k_is)
   (case a7 => k_is)
   (case l7 => k_is)
   (case c7 => k_is)
   (case k7 => k_is)
   (case a8 => k_is)
   (case l8 => k_is)
   (case c8 => k_is)
   (case k8 => k_is)
   (case a9 => k_is)
   (case l9 => k_is)
   (case c9 => k_is)
   (case k9 => k_is)
   (case a10 => k_is)
   (case l10 => k_is)
   (case c10 => k_is)
   (case k10 => k_is)
   (case a11 => k_is)
   (case l11 => k_is)
   (case c11 => k_is)
   (case k11 => k_is)
   (case a12 => k_is)
   (case i12 => k_is)
   (case l12 => k_is)
   (case c12 => k_is)
   (case k12 => k_is)
   (case a13 => k_is)
   (case i13 => k_is)
   (case l13 => k_is)
   (case c13 => k_is)
   (case k13 => k_is)
   (case a14 => k_is)
   (case l14 => k_is)
   (case c14 => k_is)
   (case k14 => k_is)
   (case a15 => k_is)
   (case i15 => k_is)
   (case l15 => k_is)
   (case c15 => k_is)
   (case k15 => k_is)
   (case a16 => k_is)
   (case l16 => k_is)
   (case c16 => k_is)
   (case k16 => k_is)
   (case a17 => k_is)
   (case i17 => k_is)
   (case l17 => k_is)
   (case c17 => k_is)
   (case k17 => k_is)
   (case a18 => k_is)
   (case l18 => k_is)
   (case c18 => k_is)
   (case k18 => k_is)
   (case a19 => k_is)
   (case i19 => k_is)
   (case l19 => k_is)
   (case c19 => k_is)
   (case k19 => k_is)
   (case a20 => k_is)
   (case i20 => k_is)
   (case l20 => k_is)
   (case c20 => k_is)
   (case k20 => k_is)
   (case a21 => k_is)
   (case i21 => k_is)
   (case l21 => k_is)
   (case c21 => k_is)
   (case k21 => k_is)
   (case a22 => k_is)
   (case i22 => k_is)
   (case l22 => k_is)
   (case c22 => k_is)
   (case k22 => k_is)
   (case a23 => k_is)
   (case i23 => k_is)
   (case l23 => k_is)
   (case c23 => k_is)
   (case k23 => k_is)
   (case a24 => k_is)
   (case i24 => k_is)
   (case l24 => k_is)
   (case c24 => k_is)
   (case k24 => k_is)
   (case a25 => k_is)
   (case l25 => k_is)
   (case c25 => k_is)
   (case k25 => k_is)
   (case d25 => k_is)
   (case a26 => k_is)
   (case l26 => k_is)
   (case c26 => k_is)
   (case k26 => k_is)
   (case a27 => k_is)
   (case l27 => k_is)
   (case c27 => k_is)
   (case k27 => k_is)
   (case a28 => k_is)
   (case l28 => k_is)
   (case c28 => k_is)
   (case k28 => k_is)
   (case a29 => k_is)
   (case l29 => k_is)
   (case c29 => k_is)
   (case k29 => k_is)
   (case a30 => k_is)
   (case l30 => k_is)
   (case c30 => k_is)
   (case k30 => k_is)
   (case a31 => k_is)
   (case l31 => k_is)
   (case c31 => k_is)
   (case k31 => k_is)
   (case a32 => k_is)
   (case l32 => k_is)
   (case c32 => k_is)
   (case k32 => k_is)
   (case a33 => k_is)
   (case l33 => k_is)
   (case c33 => k_is)
   (case k33 => k_is)
   (case a34 => k_is)
   (case l34 => k_is)
   (case c34 => k_is)
   (case k34 => k_is)
   (case l35 => k_is)
   (case c35 => k_is)
   (case k35 => k_is)
   (case a36 => k_is)
   (case l36 => k_is)
   (case c36 => k_is)
   (case k36 => k_is)
   (case a37 => k_is)
   (case l37 => k_is)
   (case c37 => k_is)
   (case k37 => k_is)
   (case a38 => k_is)
   (case l38 => k_is)
   (case c38 => k_is)
   (case k38 => k_is)
   (case a39 => k_is)
   (case l39 => k_is)
   (case c39 => k_is)
   (case k39 => k_is)
   (case a40 => k_is)
   (case l40 => k_is)
   (case c40 => k_is)
   (case k40 => k_is)
   (case a41 => k_is)
   (case l41 => k_is)
   (case c41 => k_is)
   (case k41 => k_is)
   (case a42 => k_is)
   (case l42 => k_is)
   (case c42 => k_is)
   (case k42 => k_is)
   (case a43 => k_is)
   (case l43 => k_is)
   (case c43 => k_is)
   (case k43 => k_is)
   (case a44 => k_is)
   (case l44 => k_is)
   (case c44 => k_is)
   (case k44 => k_is)
   (case a45 => k_is)
   (case l45 => k_is)
   (case c45 => k_is)
   (case k45 => k_is)
   (case a46 => k_is)
   (case l46 => k_is)
   (case c46 => k_is)
   (case k46 => k_is)
   (case a47 => k_is)
   (case l47 => k_is)
   (case c47 => k_is)
   (case k47 => k_is)
   (case a48 => k_is)
   (case l48 => k_is)
   (case c48 => k_is)
   (case k48 => k_is)
   (case pg_Dialect => k_is)
   (case hd_Dialect => k_is)
   (case po_Dialect => k_is)
   (case sa_Dialect => k_is)
   (case mk_Dialect => k_is)
   (case kc_Dialect => k_is)
   (case n_Dialect_parts => k_is)
   (case n_Dialect_quotes => k_is)
   (case n_Dialect_frees => k_is)
   (case n_Dialect_twin => k_is)
   (case n_Dialect_wide => k_is)
   (case n_Dialect_thin => k_is)
   (case n_Dialect_stray => k_is)
   (case pg_Turn => k_is)
   (case hd_Turn => k_is)
   (case po_Turn => k_is)
   (case sa_Turn => k_is)
   (case mk_Turn => k_is)
   (case kc_Turn => k_is)
   (case n_Turn_dialect => k_is)
   (case pg_Marker => k_is)
   (case hd_Marker => k_is)
   (case po_Marker => k_is)
   (case sa_Marker => k_is)
   (case mk_Marker => k_is)
   (case kc_Marker => k_is)
   (case n_Marker_turn => k_is)
   (case n_Marker_tokens => k_is)
   (case pg_Writer => k_is)
   (case hd_Writer => k_is)
   (case po_Writer => k_is)
   (case sa_Writer => k_is)
   (case mk_Writer => k_is)
   (case kc_Writer => k_is)
   (case n_Writer_marker => k_is)
   (case n_Writer_tokens => k_is)
   (case n_Writer_usual => k_is)
   (case w_ax_DialectError => rfl)
   (case xs_DialectError => k_is)
   (case xr_DialectError => k_is)
   (case xc_DialectError => k_is)
   (case w_ax_NoWriting => rfl)
   (case kx_NoWriting => k_is)
   (case lx_NoWriting => k_is)
   (case xsa_NoWriting => k_is)
   (case xga_NoWriting => k_is)
   (case xgx_NoWriting => k_is)
   (case xhd_NoWriting => k_is)
   (case xn_NoWriting_row => k_is)
   (case xn_NoWriting_cell => k_is)
   (case z_all => k_is)
   (case z_bool => k_is)
   (case z_enumerate => k_is)
   (case z_isinstance => k_is)
   (case z_len => k_is)
   (case z_list => k_is)
   (case z_max => k_is)
   (case z_ord => k_is)
   (case z_range => k_is)
   (case z_reversed => k_is)
   (case z_str => k_is)
   (case z_sum => k_is)
   (case z_tuple => k_is)
   (case v_LINE => k_is)
   (case w_LINE => rfl)
   (case v_MOST_ROWS => k_is)
   (case v_MOST_CELLS => k_is)
   (case v_MOST_SIGNS_IN_CELLS => k_is)
   (case v_START => k_is)
   (case t_START => k_is)
   (case v_PART => k_is)
   (case t_PART => k_is)
   (case v_END => k_is)
   (case t_END => k_is)

