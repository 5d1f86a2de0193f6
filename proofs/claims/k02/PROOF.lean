import PyProof.Rows.All
import Wide.All
import OpenK.AllK
import Wide.FinOn
import PySem.Challenge.RW_fieldrows_k02_expressions_read
import Lean
import PyProof.EqAt
import PyProof.EqKinds
import PyProof.TupleCall
import PyProof.ZipIter
import PyProof.Draws
import PyProof.TupleIter
import PyProof.NeKinds
import KE.LcSums
import KE.KIntText
import PyProof.EnumMake
import OpenK.KTop
set_option Elab.async false
set_option linter.all false
set_option maxRecDepth 100000
set_option maxHeartbeats 4000000
/-! THE HAND LAYER, for ints, bools, texts, own classes, LISTS and tuples (index, slices, in, append, pop ..), calls, loops. Paste it whole ahead of your own text; what your proof does not reach may be deleted. -/
namespace L2
open PySem PySem.Spec PyProof.Rows

/-- a key: an int or a str -/
abbrev Key := Sum Int Str
def keyIs : Key → Value → Bool
  | .inl k, v => Value.isInt k v
  | .inr x, v => Value.isStrOf x v
def keyH (w : World) : Key → Int
  | .inl k => hashInt k
  | .inr x => hashStr w x
theorem keyIs_shape : ∀ {k : Key} {v : Value}, keyIs k v = true → (∃ i t, k = Sum.inl i ∧ v = Value.int i t) ∨ (∃ x t, k = Sum.inr x ∧ v = Value.str x t)
  | .inl i, v, h => by
    obtain ⟨t, e⟩ := Value.isInt_shape (k := i) (v := v) h
    exact .inl ⟨i, t, rfl, e⟩
  | .inr x, v, h => by
    obtain ⟨t, e⟩ := Value.isStrOf_shape (x := x) (v := v) h
    exact .inr ⟨x, t, rfl, e⟩
theorem keyIs_int (i : Int) (t : Tok) : keyIs (.inl i) (.int i t) = true := by simp [keyIs, Value.isInt]
theorem keyIs_str (x : Str) (t : Tok) : keyIs (.inr x) (.str x t) = true := by simp [keyIs, Value.isStrOf]
theorem key_ll (a b : Int) : decide ((Sum.inl a : Key) = Sum.inl b) = (a == b) := by
  by_cases e : a = b
  · subst e; simp
  · have h : ¬ (Sum.inl a : Key) = Sum.inl b := fun q => e (Sum.inl.inj q)
    rw [decide_eq_false h]
    exact (beq_eq_false_iff_ne.mpr e).symm
theorem key_rr (a b : Str) : decide ((Sum.inr a : Key) = Sum.inr b) = decide (a = b) := by
  by_cases e : a = b
  · subst e; simp
  · have h : ¬ (Sum.inr a : Key) = Sum.inr b := fun q => e (Sum.inr.inj q)
    rw [decide_eq_false h, decide_eq_false e]
theorem key_lr (a : Int) (b : Str) : decide ((Sum.inl a : Key) = Sum.inr b) = false := decide_eq_false (fun q => nomatch q)
theorem key_rl (a : Str) (b : Int) : decide ((Sum.inr a : Key) = Sum.inl b) = false := decide_eq_false (fun q => nomatch q)

def mixKind (prog : Program) (w : World) : PySem.KeyKind prog w Key where
  is := keyIs
  hash := keyH w
  inj := fun v a b ha hb => by
    rcases keyIs_shape ha with ⟨i, t, rfl, rfl⟩ | ⟨x, t, rfl, rfl⟩
    · rcases keyIs_shape hb with ⟨j, u, rfl, e⟩ | ⟨y, u, rfl, e⟩
      · injection e with e1 _; rw [e1]
      · exact nomatch e
    · rcases keyIs_shape hb with ⟨j, u, rfl, e⟩ | ⟨y, u, rfl, e⟩
      · exact nomatch e
      · injection e with e1 _; rw [e1]
  byValue := fun k v h => by
    rcases keyIs_shape h with ⟨i, t, rfl, rfl⟩ | ⟨x, t, rfl, rfl⟩ <;> rfl
  pyHash := fun hv h => by
    rcases keyIs_shape hv with ⟨i, t, rfl, rfl⟩ | ⟨x, t, rfl, rfl⟩
    · exact wpAny_pyHash_int h
    · exact wpAny_pyHash_str h
  eqBool := fun hu hv h => by
    rcases keyIs_shape hu with ⟨i, t, rfl, rfl⟩ | ⟨x, t, rfl, rfl⟩
    · rcases keyIs_shape hv with ⟨j, u, rfl, rfl⟩ | ⟨y, u, rfl, rfl⟩
      · rw [key_ll] at h; exact wpAny_eqBool_int h
      · rw [key_lr] at h; exact SeqAt.EqAt.int_str i t y u _ _ _ _ h
    · rcases keyIs_shape hv with ⟨j, u, rfl, rfl⟩ | ⟨y, u, rfl, rfl⟩
      · rw [key_rl] at h; exact SeqAt.EqAt.str_int x t j u _ _ _ _ h
      · rw [key_rr] at h; exact wpAny_eqBool_str h
  «strs» := fun k x t v h => by
    rcases keyIs_shape h with ⟨i, u, rfl, e⟩ | ⟨y, u, rfl, e⟩
    · exact nomatch e
    · injection e with e1 _
      subst e1
      cases v <;> rfl

theorem mixKind_is (prog : Program) (w : World) (k : Key) (v : Value) : (mixKind prog w).is k v = keyIs k v := rfl
theorem mixKind_int (prog : Program) (w : World) (i : Int) (t : Tok) : (mixKind prog w).is (.inl i) (.int i t) = true := keyIs_int i t
theorem mixKind_str (prog : Program) (w : World) (x : Str) (t : Tok) : (mixKind prog w).is (.inr x) (.str x t) = true := keyIs_str x t
end L2

namespace L2
open PySem PySem.Spec PyProof.Rows

/-- a value, without the heap -/
inductive V where
  | non | bl (b : Bool) | int (i : Int) | str (x : Str) | byt (b : Array UInt8) | flt (b : UInt64) | ref (a : Addr) | ty (n : String)
  deriving DecidableEq

def RelV : V → Value → Prop
  | .non, u => u = Value.none
  | .bl b, u => u = Value.bool b
  | .int i, u => ∃ t, u = Value.int i t
  | .str x, u => ∃ t, u = Value.str x t
  | .byt b, u => ∃ t, u = Value.bytes b t
  | .flt b, u => ∃ t, u = Value.float b t
  | .ref a, u => u = Value.ref a
  | .ty n, u => u = Value.type n

abbrev Vals : List V → List Value → Prop := Paired RelV
theorem Vals.length {xs : List V} {us : List Value} (r : Vals xs us) : xs.length = us.length := Paired.length r
theorem Vals.get : ∀ {xs : List V} {us : List Value} {i : Nat} {x : V}, Vals xs us → xs[i]? = some x → ∃ u, us[i]? = some u ∧ RelV x u
  | _, _, _, _, .nil, e => by simp at e
  | _, _, 0, _, .cons r _, e => by simp at e; subst e; exact ⟨_, rfl, r⟩
  | _, _, i + 1, x, .cons _ t, e => by
    obtain ⟨u, h1, h2⟩ := Vals.get (i := i) (x := x) t (by simpa using e)
    exact ⟨u, by simpa using h1, h2⟩
theorem Vals.set {x : V} {u : Value} (r : RelV x u) : ∀ {xs : List V} {us : List Value} (i : Nat), Vals xs us → Vals (xs.set i x) (us.set i u)
  | _, _, _, .nil => .nil
  | _, _, 0, .cons _ t => .cons r t
  | _, _, i + 1, .cons q t => .cons q (Vals.set r i t)
theorem Vals.append : ∀ {xs ys : List V} {us ws : List Value}, Vals xs us → Vals ys ws → Vals (xs ++ ys) (us ++ ws)
  | _, _, _, _, .nil, s => s
  | _, _, _, _, .cons r t, s => .cons r (Vals.append t s)
theorem Vals.take : ∀ {xs : List V} {us : List Value} (n : Nat), Vals xs us → Vals (xs.take n) (us.take n)
  | _, _, 0, _ => .nil
  | _, _, _ + 1, .nil => .nil
  | _, _, n + 1, .cons r t => .cons r (Vals.take n t)
theorem Vals.drop : ∀ {xs : List V} {us : List Value} (n : Nat), Vals xs us → Vals (xs.drop n) (us.drop n)
  | _, _, 0, r => r
  | _, _, _ + 1, .nil => .nil
  | _, _, n + 1, .cons _ t => Vals.drop n t
theorem Vals.none_of : ∀ {xs : List V} {us : List Value} {i : Nat}, Vals xs us → xs[i]? = none → us[i]? = none := fun {xs us i} r e => by
  have h1 := r.length
  have h2 : xs.length ≤ i := List.getElem?_eq_none_iff.mp e
  exact List.getElem?_eq_none_iff.mpr (by omega)

def RelO : Option V → Option Value → Prop
  | some v, some u => RelV v u
  | none, none => True
  | _, _ => False
def KV {κ : Type} : List (κ × V) → List (κ × Value) → Prop := Paired fun (p : κ × V) (q : κ × Value) => p.1 = q.1 ∧ RelV p.2 q.2

/-- a key of a dict (00_mix): an int or a text -/
def kV : Key → V
  | .inl i => .int i
  | .inr x => .str x

/-- what stands at a tracked address -/
inductive HO where
  /-- a list -/
  | lst (xs : List V)
  /-- a tuple (never changes) -/
  | tup (xs : List V)
  /-- a dict whose keys are ints and texts; one whose keys are tuples of ints and texts (the empty one is both) -/
  | dK (kvs : List (Key × V)) | dT (kvs : List (List Key × V))
  /-- a set of ints: its members, its size -/
  | set (S : Int → Bool) (n : Nat)
  /-- an instance of the class at C, its dict at dx, its attributes -/
  | ins (C dx : Addr) (fs : List (Str × V))
  /-- the dict of the instance at x -/
  | own (x : Addr)
  /-- the dict of an exception -/
  | xd (fs : List (Str × V))
  /-- a bound method, f of x -/
  | met (f x : Addr)
  /-- a range object lo, lo + 1, .. below hi -/
  | rng (lo hi : Int)
  /-- a thing that is known to the object (the script; a dict while a loop walks it): read, never written while it is so -/
  | frz (o : Obj) (u : HO)
  /-- a code object's table -/
  | tbl (ps : Array Value)
  /-- any other thing, by what is true of its one object (a def of one's own: SetO a S n := HO.ext fun h => ..) -/
  | ext (φ : Heap → Prop)

abbrev Hp := Addr → Option HO
def upd (H : Hp) (a : Addr) (o : HO) : Hp := fun b => if b = a then some o else H b
theorem upd_same {H : Hp} {a : Addr} {o : HO} : upd H a o a = some o := by unfold upd; rw [if_pos rfl]
theorem upd_ne {H : Hp} {a b : Addr} {o : HO} (h : b ≠ a) : upd H a o b = H b := by unfold upd; rw [if_neg h]
theorem upd_upd {H : Hp} {a : Addr} {o u : HO} : upd (upd H a o) a u = upd H a u := by
  funext b; unfold upd; split <;> rfl
/-- two objects of different content stand apart -/
theorem ne_of {H : Hp} {a b : Addr} {o u : HO} (h : H a = some o) (h' : H b = some u) (d : o ≠ u) : a ≠ b := by
  intro e; subst e; rw [h] at h'; exact d (Option.some.inj h')
theorem ne_of_none {H : Hp} {a b : Addr} {o : HO} (h : H a = some o) (h' : H b = none) : a ≠ b := by
  intro e; subst e; rw [h] at h'; cases h'

section
variable (P : Program) (w : World)
def ObjOk (H : Hp) (h : Heap) (a : Addr) : HO → Prop
  | .lst xs => xs.length ≤ sizeLine ∧ ∃ (its : List Value) (n : Nat), Vals xs its ∧ h.get? a = some { cls := .type "list", data := .seq its.toArray n }
  | .tup xs => xs.length ≤ sizeLine ∧ ∃ its : List Value, Vals xs its ∧ IsTup h a its.toArray
  | .dK kvs => kvs.length ≤ sizeLine ∧ (a == sysModules) = false ∧ ∃ vs, KV kvs vs ∧ h.DictOf (mixKind P w) a vs
  | .dT kvs => kvs.length ≤ sizeLine ∧ (a == sysModules) = false ∧ ∃ xs : List (List Key × Addr × Value),
      Paired (fun (p : List Key × V) (q : List Key × Addr × Value) => p.1 = q.1 ∧ H q.2.1 = some (.tup (p.1.map kV)) ∧ RelV p.2 q.2.2) kvs xs ∧
      ∃ o es ep, h.get? a = some o ∧ o.ExactDict ∧ o.data = .dict es ep ∧ es.toList = xs.map (entryOfKey (tupleKind (mixKind P w))) ∧ (xs.map (·.1)).Nodup
  | .set S n => h.SetOf (intKind P w) a S n
  | .ins C dx fs => H dx = some (.own a) ∧ fs.length ≤ 1000 ∧ dx ≠ a ∧ h.get? a = some (PySem.W.instObj C dx) ∧
      ∃ mA, h.Ns1 dx mA ∧ (∀ f, RelO (fs.lookup f) (mA f)) ∧ PySem.Within mA (fs.map (·.1))
  | .own _ => ∃ o, h.get? a = some o
  | .xd fs => ∃ mA, h.Ns1 a mA ∧ ∀ f, RelO (fs.lookup f) (mA f)
  | .rng lo hi => ∃ t u v, h.get? a = some { cls := .type "range", data := .fields #[.int lo t, .int hi u, .int 1 v] }
  | .frz o u => h.get? a = some o ∧ ObjOk H h a u
  | .tbl ps => h.get? a = some { cls := .none, data := .fields ps }
  | .met f x => h.get? a = some (PySem.W.methodObj (.ref f) (.ref x))
  | .ext φ => φ h ∧ (∃ o, h.get? a = some o) ∧ ∀ h1 h2 : Heap, φ h1 → (∀ o, h1.get? a = some o → h2.get? a = some o) → φ h2
/-- the abstract heap is held -/
def HOk (H : Hp) (h : Heap) : Prop := ∀ a o, H a = some o → ObjOk P w H h a o
end

section
variable {P : Program} {w : World} {H H' : Hp} {h h' : Heap} {a : Addr} {o : HO}
theorem ObjOk.lt (x : ObjOk P w H h a o) : a < h.objs.size := by
  cases o with
  | lst xs => obtain ⟨_, _, _, _, e⟩ := x; exact Heap.lt_size e
  | tup xs => obtain ⟨_, _, _, p⟩ := x; exact p.lt
  | dK kvs => obtain ⟨_, _, _, _, o, _, _, e, _⟩ := x; exact Heap.lt_size e
  | dT kvs => obtain ⟨_, _, _, _, o, _, _, e, _⟩ := x; exact Heap.lt_size e
  | set S n => obtain ⟨o, _, _, _, e, _⟩ := x; exact Heap.lt_size e
  | ins C dx fs => obtain ⟨_, _, _, e, _⟩ := x; exact Heap.lt_size e
  | own y => obtain ⟨_, e⟩ := x; exact Heap.lt_size e
  | xd fs => obtain ⟨_, ⟨_, _, _, e, _⟩, _⟩ := x; exact Heap.lt_size e
  | rng lo hi => obtain ⟨_, _, _, e⟩ := x; exact Heap.lt_size e
  | frz ob u => obtain ⟨e, _⟩ := x; exact Heap.lt_size e
  | tbl ps => exact Heap.lt_size (show h.get? a = some _ from x)
  | met f y => exact Heap.lt_size (show h.get? a = some _ from x)
  | ext φ => obtain ⟨_, ⟨_, e⟩, _⟩ := x; exact Heap.lt_size e
theorem Paired.mapP {α β : Type} {F G : α → β → Prop} : ∀ {l₁ : List α} {l₂ : List β}, Paired F l₁ l₂ → (∀ a b, F a b → G a b) → Paired G l₁ l₂
  | _, _, .nil, _ => .nil
  | _, _, .cons r t, f => .cons (f _ _ r) (Paired.mapP t f)
theorem Paired.imp' {α β : Type} {F G : α → β → Prop} (f : ∀ a b, F a b → G a b) {l₁ : List α} {l₂ : List β} (r : Paired F l₁ l₂) : Paired G l₁ l₂ := Paired.mapP r f
/-- what an object's description leans on: its own object, its own dict, the tuples -/
theorem ObjOk.stay (x : ObjOk P w H h a o) (k : ∀ b u, (b = a ∨ H b = some (.own a)) → h.get? b = some u → h'.get? b = some u)
    (ho : ∀ b, H b = some (.own a) → H' b = some (.own a)) (ht : ∀ b xs, H b = some (.tup xs) → H' b = some (.tup xs)) : ObjOk P w H' h' a o := by
  induction o with
  | lst xs => obtain ⟨z, its, n, r, e⟩ := x; exact ⟨z, its, n, r, k _ _ (.inl rfl) e⟩
  | tup xs => obtain ⟨z, its, r, ob, e, c⟩ := x; exact ⟨z, its, r, ob, k _ _ (.inl rfl) e, c⟩
  | dK kvs => obtain ⟨z, y, vs, r, ob, es, ep, e, c⟩ := x; exact ⟨z, y, vs, r, ob, es, ep, k _ _ (.inl rfl) e, c⟩
  | dT kvs =>
    obtain ⟨z, y, xs, r, ob, es, ep, e, c⟩ := x
    exact ⟨z, y, xs, Paired.mapP r fun p q z => ⟨z.1, ht _ _ z.2.1, z.2.2⟩, ob, es, ep, k _ _ (.inl rfl) e, c⟩
  | set S n => obtain ⟨ob, es, ep, t, e, c⟩ := x; exact ⟨ob, es, ep, t, k _ _ (.inl rfl) e, c⟩
  | ins C dx fs =>
    obtain ⟨d, z, ne, e, mA, ⟨od, es, ep, e2, c⟩, r⟩ := x
    exact ⟨ho _ d, z, ne, k _ _ (.inl rfl) e, mA, ⟨od, es, ep, k _ _ (.inr d) e2, c⟩, r⟩
  | own y => obtain ⟨ob, e⟩ := x; exact ⟨ob, k _ _ (.inl rfl) e⟩
  | xd fs => obtain ⟨mA, ⟨od, es, ep, e, c⟩, r⟩ := x; exact ⟨mA, ⟨od, es, ep, k _ _ (.inl rfl) e, c⟩, r⟩
  | rng lo hi => obtain ⟨t, u, v, e⟩ := x; exact ⟨t, u, v, k _ _ (.inl rfl) e⟩
  | frz ob u ih => obtain ⟨e, q⟩ := x; exact ⟨k _ _ (.inl rfl) e, ih q⟩
  | tbl ps =>
    have e : h.get? a = some { cls := .none, data := .fields ps } := x
    show h'.get? a = some { cls := .none, data := .fields ps }
    exact k a _ (.inl rfl) e
  | met f y =>
    have e : h.get? a = some (PySem.W.methodObj (.ref f) (.ref y)) := x
    show h'.get? a = some (PySem.W.methodObj (.ref f) (.ref y))
    exact k a _ (.inl rfl) e
  | ext φ => obtain ⟨p, ⟨o, e⟩, st⟩ := x; exact ⟨st _ _ p fun o q => k _ _ (.inl rfl) q, ⟨o, k _ _ (.inl rfl) e⟩, st⟩
theorem HOk.lt (x : HOk P w H h) (e : H a = some o) : a < h.objs.size := (x a o e).lt
theorem HOk.fresh (x : HOk P w H h) (e : h.objs.size ≤ a) : H a = none := by
  cases q : H a with
  | none => rfl
  | some u => exact absurd (Nat.lt_of_lt_of_le (x.lt q) e) (Nat.lt_irrefl _)
/-- every object of the heap is kept -/
theorem HOk.kept (x : HOk P w H h) (k : ∀ b u, h.get? b = some u → h'.get? b = some u) : HOk P w H h' := fun a o e =>
  (x a o e).stay (fun b u _ q => k b u q) (fun _ q => q) fun _ _ q => q
/-- a new object is laid and tracked -/
theorem HOk.laid (x : HOk P w H h) (k : ∀ b u, h.get? b = some u → h'.get? b = some u) (hp : h.objs.size ≤ a) (new : ObjOk P w (upd H a o) h' a o) : HOk P w (upd H a o) h' := fun b u e => by
  have hn := x.fresh hp
  by_cases hb : b = a
  · subst hb; rw [upd_same] at e; cases e; exact new
  · rw [upd_ne hb] at e
    exact (x b u e).stay (fun c v _ q => k c v q) (fun c q => by rw [upd_ne (ne_of_none q hn)]; exact q) fun c xs q => by rw [upd_ne (ne_of_none q hn)]; exact q
end

/-- what may be read as u: it is u, or a known u -/
def Rd (H : Hp) (a : Addr) (u : HO) : Prop := H a = some u ∨ ∃ o, H a = some (.frz o u)
theorem Rd.of {H : Hp} {a : Addr} {u : HO} (h : H a = some u) : Rd H a u := .inl h
theorem Rd.ok {P : Program} {w : World} {H : Hp} {h : Heap} {a : Addr} {u : HO} (r : Rd H a u) (x : HOk P w H h) : ObjOk P w H h a u := by
  rcases r with r | ⟨o, r⟩
  · exact x a u r
  · obtain ⟨_, q⟩ := x a _ r
    exact q
/-- what may be written -/
def Mut : Option HO → Prop
  | some (.lst _) => True
  | some (.dK _) => True
  | some (.dT _) => True
  | some (.set _ _) => True
  | some (.ins _ _ _) => True
  | some (.ext _) => True
  | _ => False
section
variable {P : Program} {w : World} {H : Hp} {h h' : Heap} {x e : Addr} {o' : HO}
/-- the object at e is changed: x itself, or the dict of the instance x -/
theorem HOk.write (ok : HOk P w H h) (mu : Mut (H x)) (he : e = x ∨ H e = some (.own x)) (k : ∀ b u, b ≠ e → h.get? b = some u → h'.get? b = some u) (heo : ∃ u, h'.get? e = some u)
    (new : ObjOk P w (upd H x o') h' x o') : HOk P w (upd H x o') h' := fun b u q => by
  have nown : ∀ c y, H c = some (.own y) → c ≠ x := fun c y r z => by subst z; rw [r] at mu; exact mu
  have ntup : ∀ c xs, H c = some (.tup xs) → c ≠ x := fun c xs r z => by subst z; rw [r] at mu; exact mu
  by_cases hb : b = x
  · subst hb; rw [upd_same] at q; cases q; exact new
  · rw [upd_ne hb] at q
    by_cases hbe : b = e
    · have q' : H b = some (.own x) := by
        rcases he with z | z
        · exact absurd (hbe.trans z) hb
        · rw [hbe]; exact z
      rw [q] at q'; cases q'
      obtain ⟨v, hv⟩ := heo
      exact ⟨v, by rw [hbe]; exact hv⟩
    · refine (ok b u q).stay (fun c v hc r => k c v ?_ r) (fun c r => by rw [upd_ne (nown c b r)]; exact r) fun c xs r => by rw [upd_ne (ntup c xs r)]; exact r
      rcases hc with rfl | hc
      · exact hbe
      · rintro rfl
        rcases he with z | z
        · exact nown c b hc z
        · rw [hc] at z; cases z; exact hb rfl
end

/-! ### kept unless tracked; of the frames at fs (the callers') the slots may change (an exception that passes writes there); of the records at ex (iterators) nothing is said -/
structure Un (fs ex : List Addr) (H H' : Hp) (h h' : Heap) : Prop where
  keep : ∀ b o, h.get? b = some o → H b = none → b ∉ fs → b ∉ ex → h'.get? b = some o
  slot : ∀ b o, h.get? b = some o → H b = none → b ∈ fs → b ∉ ex → ∃ sl, h'.get? b = some { o with slots := sl }
  free : ∀ b o, h.get? b = some o → H b = none → b ∉ ex → H' b = none
  there : ∀ b o, h.get? b = some o → b ∉ ex → ∃ o', h'.get? b = some o'
  tups : ∀ b xs, H b = some (.tup xs) → H' b = some (.tup xs)
  frzs : ∀ b o u, H b = some (.frz o u) → H' b = some (.frz o u)
  tbls : ∀ b ps, H b = some (.tbl ps) → ∃ more, H' b = some (.tbl (ps ++ more))
section
variable {fs fs' ex ex' : List Addr} {H H1 H2 : Hp} {h h1 h2 h' : Heap} {a x e : Addr} {o : HO}
theorem Un.any (u : Un fs ex H H1 h h1) {b : Addr} {ob : Obj} (q : h.get? b = some ob) (n : H b = none) (hx : b ∉ ex) : ∃ sl, h1.get? b = some { ob with slots := sl } := by
  by_cases hb : b ∈ fs
  · exact u.slot b ob q n hb hx
  · exact ⟨ob.slots, u.keep b ob q n hb hx⟩
theorem Un.trans (a : Un fs ex H H1 h h1) (b : Un fs ex H1 H2 h1 h2) : Un fs ex H H2 h h2 where
  keep := fun c ob q n hc hx => b.keep c ob (a.keep c ob q n hc hx) (a.free c ob q n hx) hc hx
  slot := fun c ob q n hc hx => by
    obtain ⟨sl, e1⟩ := a.slot c ob q n hc hx
    obtain ⟨sl', e2⟩ := b.slot c _ e1 (a.free c ob q n hx) hc hx
    exact ⟨sl', e2⟩
  free := fun c ob q n hx => by
    obtain ⟨o', e1⟩ := a.there c ob q hx
    exact b.free c o' e1 (a.free c ob q n hx) hx
  there := fun c ob q hx => by
    obtain ⟨o', e1⟩ := a.there c ob q hx
    exact b.there c o' e1 hx
  tups := fun c xs q => b.tups c xs (a.tups c xs q)
  frzs := fun c ob xs q => b.frzs c ob xs (a.frzs c ob xs q)
  tbls := fun c ps q => by
    obtain ⟨m1, e1⟩ := a.tbls c ps q
    obtain ⟨m2, e2⟩ := b.tbls c _ e1
    exact ⟨m1 ++ m2, by rw [e2, Array.append_assoc]⟩
theorem Un.kept (k : ∀ b u, h.get? b = some u → h'.get? b = some u) : Un fs ex H H h h' :=
  ⟨fun b ob q _ _ _ => k b ob q, fun b ob q _ _ _ => ⟨ob.slots, k b ob q⟩, fun _ _ _ n _ => n, fun b ob q _ => ⟨ob, k b ob q⟩, fun _ _ q => q, fun _ _ _ q => q, fun _ ps q => ⟨#[], by rw [q]; simp⟩⟩
theorem Un.refl : Un fs ex H H h h := Un.kept fun _ _ q => q
theorem Un.laid (k : ∀ b u, h.get? b = some u → h'.get? b = some u) (hp : h.objs.size ≤ a) (hn : H a = none) : Un fs ex H (upd H a o) h h' where
  keep := fun b u q _ _ _ => k b u q
  slot := fun b u q _ _ _ => ⟨u.slots, k b u q⟩
  free := fun b u q n _ => by rw [upd_ne (Nat.ne_of_lt (Nat.lt_of_lt_of_le (Heap.lt_size q) hp))]; exact n
  there := fun b u q _ => ⟨u, k b u q⟩
  tups := fun b xs q => by rw [upd_ne (ne_of_none q hn)]; exact q
  frzs := fun b u xs q => by rw [upd_ne (ne_of_none q hn)]; exact q
  tbls := fun b ps q => ⟨#[], by rw [upd_ne (ne_of_none q hn), q]; simp⟩
theorem Un.write (mu : Mut (H x)) (he : e = x ∨ H e = some (.own x)) (k : ∀ b u, b ≠ e → h.get? b = some u → h'.get? b = some u) (heo : ∃ u, h'.get? e = some u) : Un fs ex H (upd H x o) h h' := by
  have hx : ∀ b, H b = none → b ≠ x := fun b n z => by subst z; rw [n] at mu; exact mu
  have hb : ∀ b, H b = none → b ≠ e := fun b n z => by
    subst z
    rcases he with r | r
    · exact hx b n r
    · rw [n] at r; cases r
  have hm : ∀ b u, H b = some u → ¬ Mut (some u) → b ≠ x := fun b u q nm z => by subst z; rw [q] at mu; exact nm mu
  refine ⟨fun b u q n _ _ => k b u (hb b n) q, fun b u q n _ _ => ⟨u.slots, k b u (hb b n) q⟩, fun b u q n _ => by rw [upd_ne (hx b n)]; exact n, fun b u q _ => ?_,
    fun b xs q => by rw [upd_ne (hm b _ q fun z => z)]; exact q, fun b u xs q => by rw [upd_ne (hm b _ q fun z => z)]; exact q, fun b ps q => ⟨#[], by rw [upd_ne (hm b _ q fun z => z), q]; simp⟩⟩
  by_cases hbe : b = e
  · subst hbe; exact heo
  · exact ⟨u, k b u hbe q⟩
theorem Un.mono (u : Un fs ex H H1 h h1) (hs : ∀ b ∈ fs, b ∈ fs') (hx : ∀ b ∈ ex, b ∈ ex') : Un fs' ex' H H1 h h1 :=
  ⟨fun b ob q n hb he => u.keep b ob q n (fun z => hb (hs b z)) fun z => he (hx b z), fun _ _ q n _ he => u.any q n fun z => he (hx _ z), fun b ob q n he => u.free b ob q n fun z => he (hx b z), fun b ob q he => u.there b ob q fun z => he (hx b z), u.tups, u.frzs, u.tbls⟩
end

/-! ### the heap without what is tracked -/
def trk (h : Heap) (H : Hp) : List Addr := (List.range h.objs.size).filter fun a => (H a).isSome
def hidT (h : Heap) (H : Hp) : Heap := PySem.W.hideAll h (trk h H)
theorem hidT_size (h : Heap) (H : Hp) : (hidT h H).objs.size = h.objs.size := PySem.W.hideAll_size _ _
theorem hidT_get {h : Heap} {H : Hp} {b : Addr} {o : Obj} (e : h.get? b = some o) (n : H b = none) : (hidT h H).get? b = some o :=
  PySem.W.hideAll_get _ e fun hm => by
    have q : (H b).isSome = true := (List.mem_filter.mp hm).2
    rw [n] at q; simp at q
theorem of_hidT {h : Heap} {H : Hp} {b : Addr} {o : Obj} (e : (hidT h H).get? b = some o) : h.get? b = some o ∧ H b = none := by
  have e' : h.get? b = some o := PySem.W.of_hideAll (trk h H) e
  refine ⟨e', ?_⟩
  cases q : H b with
  | none => rfl
  | some x =>
    have hm : b ∈ trk h H := List.mem_filter.mpr ⟨List.mem_range.mpr (Heap.lt_size e'), by simp [q]⟩
    have z : (hidT h H).get? b = none := PySem.W.hideAll_none (trk h H) hm
    rw [z] at e; cases e

/-! ### OpenK's ledger, filled with every new object but one -/
def allNews (g h : Heap) (L : Addr) : List (Addr × Obj) := (List.range h.objs.size).filterMap fun a => if a = L ∨ (g.get? a).isSome = true then none else (h.get? a).map fun o => (a, o)
theorem mem_allNews {g h : Heap} {L a : Addr} {o : Obj} (h1 : a ≠ L) (h2 : g.get? a = none) (h3 : h.get? a = some o) : (a, o) ∈ allNews g h L :=
  List.mem_filterMap.mpr ⟨a, List.mem_range.mpr (Heap.lt_size h3), by simp [h1, h2, h3]⟩
theorem of_mem_allNews {g h : Heap} {L : Addr} {p : Addr × Obj} (hp : p ∈ allNews g h L) : p.1 ≠ L ∧ g.get? p.1 = none ∧ h.get? p.1 = some p.2 := by
  obtain ⟨b, _, e⟩ := List.mem_filterMap.mp hp
  split at e
  · cases e
  · rename_i hn
    cases q : h.get? b with
    | none => rw [q] at e; simp at e
    | some u =>
      rw [q] at e
      simp only [Option.map_some, Option.some.injEq] at e
      subst e
      refine ⟨fun z => hn (.inl z), ?_, q⟩
      show g.get? b = none
      cases r : g.get? b with
      | none => rfl
      | some v => exact (hn (.inr (by simp [r]))).elim
def rest (g h : Heap) (L d : Addr) : List (Addr × Obj) := (allNews g h L).filter fun p => decide (p.1 ≠ d)
theorem rest_ne {g h : Heap} {L d : Addr} : ∀ p ∈ rest g h L d, p.1 ≠ d := fun p hp => of_decide_eq_true (List.mem_filter.mp hp).2
theorem mem_rest {g h : Heap} {L d a : Addr} {o : Obj} (h1 : a ≠ L) (h2 : g.get? a = none) (h3 : h.get? a = some o) (h4 : a ≠ d) : (a, o) ∈ rest g h L d :=
  List.mem_filter.mpr ⟨mem_allNews h1 h2 h3, decide_eq_true h4⟩
theorem news_all {g h : Heap} {L : Addr} : News g L h (allNews g h L) := fun p hp => let ⟨a, b, c⟩ := of_mem_allNews hp; ⟨c, a, b⟩
theorem news_at {g h : Heap} {L d : Addr} {o : Obj} (h1 : d ≠ L) (h2 : g.get? d = none) (h3 : h.get? d = some o) : News g L h ((d, o) :: rest g h L d) := fun p hp => by
  rcases List.mem_cons.mp hp with rfl | hp
  · exact ⟨h3, h1, h2⟩
  · exact news_all p (List.mem_filter.mp hp).1
/-- behind a rule that changed d alone: all else but the frame is kept -/
theorem kept_of_news {g h h' : Heap} {L d : Addr} {m : Str → Option Value} (k : ∀ b o, g.get? b = some o → h.get? b = some o) (F : Fr g L h' m) (N : News g L h' (rest g h L d)) :
    ∀ b o, b ≠ L → b ≠ d → h.get? b = some o → h'.get? b = some o := fun b o h1 h2 e => by
  cases q : g.get? b with
  | some u =>
    have := k b u q
    rw [e] at this; cases this
    exact F.keep b _ q
  | none => exact (N (b, o) (mem_rest h1 q e h2)).1
end L2

namespace L2
open PySem PySem.Spec PyProof.Rows

/-- the module's facts, over the base: the heap at the law's entry without what is tracked there -/
structure Mod (K : PySem.W.Frag) (mg : Str → Option Value) (base : Heap) : Prop where
  kin : K.In base
  glob : base.Ns mainGlobals mg
  blt : ∃ mb, base.Ns builtinsNs mb ∧ ∀ x : Str, x ≠ "__name__" → mb x = bootBuiltins x
  nolimit : base.NoLimit

/-- the context: a def's body (or a comprehension's block) running. base: fixed through the whole law; s₀, H₀: the entry; outer: the frames whose slots others may change (a def's callers); stack: all frames that run;
   ex: iterators that were made ahead of the entry and are walked here (a comprehension's); fn: the names whose cells were made at the entry (a def: all; a comprehension's block: its own); calm: not within an except suite; pn: pins that every state bears; xe: what is wanted of an exception that leaves the code -/
structure Cx where
  prog : Program
  w : World
  K : PySem.W.Frag
  mg : Str → Option Value
  base : Heap
  A : Around
  N : List Str
  s₀ : Shared
  H₀ : Hp
  env : Env
  outer : List Env
  stack : List Env
  ex : List Addr
  fn : Str → Bool
  calm : Bool
  pn : List (Addr × Obj)
  xe : Value → Shared → Prop
/-- the callers' frames -/
def frs (l : List Env) : List Addr := l.filterMap (·.frame)
abbrev Cx.fs (X : Cx) : List Addr := frs X.outer

def Vis (sc : Scope) (x : Str) : Prop := sc.names.lookup x = some .local ∨ sc.names.lookup x = some .cell ∨ sc.names.lookup x = some .free
def Loc (sc : Scope) (x : Str) : Prop := sc.names.lookup x = some .local ∨ sc.names.lookup x = some .cell
def Look (env : Env) (h : Heap) (m : Str → Option Value) (x : Str) (u : Value) : Prop :=
  (env.kindOf x = some .local ∧ m x = some u) ∨ ((env.kindOf x = some .cell ∨ env.kindOf x = some .free) ∧ ∃ c, env.cells.lookup x = some c ∧ h.IsCell c (some u))

structure Cx.Ok (X : Cx) : Prop where
  mod : Mod X.K X.mg X.base
  kind : X.env.scope.kind = .function
  glob : X.env.globals = mainGlobals
  blt : X.env.builtins = builtinsNs
  above : X.s₀.heap.objs.size ≤ X.env.locals
  inj : ∀ x y c, X.env.cells.lookup x = some c → X.env.cells.lookup y = some c → x = y
  has : ∀ x, (X.env.kindOf x = some .cell ∨ X.env.kindOf x = some .free) → ∃ c, X.env.cells.lookup x = some c
  cab : ∀ x c, X.fn x = true → X.env.cells.lookup x = some c → X.s₀.heap.objs.size ≤ c
  hd : X.calm = true → X.A.handled = none
  frames : X.A.frames = some X.stack
  stk : X.stack = X.outer ∨ (X.stack = X.env :: X.outer ∧ X.env.frame = some X.env.locals)
  exf : ∀ b ∈ X.ex, b ≠ X.env.locals ∧ ∀ x c, X.env.cells.lookup x = some c → c ≠ b
  bs : ∀ b o, X.base.get? b = some o → X.s₀.heap.get? b = some o ∧ X.H₀ b = none
  bsz : X.base.objs.size ≤ X.s₀.heap.objs.size
  noex : ∀ b o, X.base.get? b = some o → b ∉ X.ex
  exfs : ∀ b ∈ X.ex, b ∉ X.fs
  funs : X.s₀.heap.FunFrames X.base X.outer
  frf : ∀ b ∈ X.fs, X.H₀ b = none

structure Inv (X : Cx) (pins : List (Addr × Obj)) (σ : List (Option V)) (H : Hp) (s : Shared) : Prop where
  ok : X.Ok
  os : s.os = X.s₀.os
  bare : AllBare s.gens
  base : Un X.fs X.ex X.H₀ H X.s₀.heap s.heap
  loc : ∃ m, s.heap.Ns X.env.locals m ∧ ∀ (i : Nat) (x : Str) (v : V), X.N[i]? = some x → σ[i]? = some (some v) → Vis X.env.scope x → ∃ u, RelV v u ∧ Look X.env s.heap m x u
  cell : ∀ x c, X.env.cells.lookup x = some c → ∃ v, s.heap.IsCell c v
  free : H X.env.locals = none
  freeC : ∀ x c, X.env.cells.lookup x = some c → H c = none
  pin : ∀ p ∈ X.pn ++ pins, s.heap.get? p.1 = some p.2 ∧ H p.1 = none ∧ p.1 ≠ X.env.locals ∧ p.1 ∉ X.fs ∧ ∀ v, p.2.data ≠ .cell v
  hok : HOk X.prog X.w H s.heap
  len : σ.length = X.N.length

section
variable {X : Cx} {pins : List (Addr × Obj)} {σ : List (Option V)} {H H' : Hp} {s : Shared} {h' : Heap}

theorem Cx.Ok.nofr (ok : X.Ok) {b : Addr} {o : Obj} (e : X.base.get? b = some o) : b ∉ X.fs := fun hb => by
  have := (ok.funs.mem hb).1
  rw [e] at this; cases this
theorem Inv.bs (I : Inv X pins σ H s) : ∀ b o, X.base.get? b = some o → s.heap.get? b = some o ∧ H b = none := fun b o e =>
  ⟨I.base.keep b o (I.ok.bs b o e).1 (I.ok.bs b o e).2 (I.ok.nofr e) (I.ok.noex b o e), I.base.free b o (I.ok.bs b o e).1 (I.ok.bs b o e).2 (I.ok.noex b o e)⟩
theorem Inv.bk (I : Inv X pins σ H s) : ∀ b o, X.base.get? b = some o → s.heap.get? b = some o := fun b o e => (I.bs b o e).1
theorem Inv.mod (I : Inv X pins σ H s) : Mod X.K X.mg X.base := I.ok.mod
theorem Inv.kIn (I : Inv X pins σ H s) : X.K.In s.heap := I.ok.mod.kin.keeps I.bk
theorem Inv.nolimit (I : Inv X pins σ H s) : s.heap.NoLimit := I.ok.mod.nolimit.keeps I.bk
/-- the frame over the base: for OpenK's rules (K.In X.base is I.mod.kin) -/
theorem Inv.fr (I : Inv X pins σ H s) : ∃ m, Fr X.base X.env.locals s.heap m :=
  let ⟨m, hn, _⟩ := I.loc
  ⟨m, hn, I.bk, Nat.le_trans I.ok.bsz I.ok.above⟩
theorem Inv.lt (I : Inv X pins σ H s) : X.env.locals < s.heap.objs.size := let ⟨_, hn, _⟩ := I.loc; hn.lt
theorem Inv.sz (I : Inv X pins σ H s) : X.s₀.heap.objs.size ≤ s.heap.objs.size := Nat.le_trans I.ok.above (Nat.le_of_lt I.lt)
theorem Inv.nofs (I : Inv X pins σ H s) {a : Addr} (h : s.heap.objs.size ≤ a) : a ∉ X.fs := fun hb => by
  obtain ⟨_, o, ho, _⟩ := I.ok.funs.mem hb
  exact absurd (Nat.lt_of_lt_of_le (Heap.lt_size ho) (Nat.le_trans I.sz h)) (Nat.lt_irrefl _)
theorem Inv.cne (I : Inv X pins σ H s) : ∀ x c, X.env.cells.lookup x = some c → c ≠ X.env.locals := fun x c e z => by
  obtain ⟨v, o, ho, hd⟩ := I.cell x c e
  obtain ⟨m, ⟨o', es, ep, ho', hd', _⟩, _⟩ := I.loc
  rw [z, ho'] at ho; cases ho; rw [hd'] at hd; cases hd
theorem Inv.funs (I : Inv X pins σ H s) : s.heap.FunFrames X.base X.outer := by
  have all : ∀ (l : List Env), (∀ b ∈ frs l, b ∈ X.fs) → X.s₀.heap.FunFrames X.base l → s.heap.FunFrames X.base l := by
    intro l
    induction l with
    | nil => intro _ _; trivial
    | cons env r ih =>
      intro hs hl
      obtain ⟨hk, ⟨L, o, hf, hn, ho, hd⟩, hr⟩ := hl
      have hL : L ∈ X.fs := hs L (by unfold frs; rw [List.filterMap_cons, hf]; exact List.mem_cons_self)
      obtain ⟨sl, e⟩ := I.base.slot L o ho (I.ok.frf L hL) hL fun z => I.ok.exfs L z hL
      exact ⟨hk, ⟨L, _, hf, hn, e, hd⟩, ih (fun b hb => hs b (by unfold frs; rw [List.filterMap_cons, hf]; exact List.mem_cons_of_mem _ hb)) hr⟩
  exact all X.outer (fun _ hb => hb) I.ok.funs

/-- the frames that run, for a call -/
theorem Inv.stack (I : Inv X pins σ H s) : s.heap.FunFrames X.base X.stack := by
  rcases I.ok.stk with e | ⟨e, hf⟩
  · rw [e]; exact I.funs
  · rw [e]
    obtain ⟨m, hn, _⟩ := I.loc
    refine .cons (by rw [I.ok.kind]; decide) hf hn ?_ I.funs
    exact Heap.get?_none_of_le (Nat.le_trans I.ok.bsz I.ok.above)
theorem Inv.stkSub (I : Inv X pins σ H s) : ∀ b ∈ frs X.stack, b ∈ X.env.locals :: X.fs := fun b hb => by
  rcases I.ok.stk with e | ⟨e, hf⟩
  · rw [e] at hb; exact List.mem_cons_of_mem _ hb
  · rw [e] at hb
    unfold frs at hb
    rw [List.filterMap_cons, hf] at hb
    exact hb
theorem Inv.stkFree (I : Inv X pins σ H s) : ∀ b ∈ frs X.stack, H b = none := fun b hb => by
  rcases List.mem_cons.mp (I.stkSub b hb) with e | hb
  · rw [e]; exact I.free
  · obtain ⟨_, o, ho, _⟩ := I.ok.funs.mem hb
    exact I.base.free b o ho (I.ok.frf b hb) fun z => I.ok.exfs b z hb

/-- THE STEP: the untracked objects but the frame and the records at ch are kept (the callers' frames up to slots), the frame's map is kept, the new abstract heap is held -/
theorem Inv.step {g' : Array GenState} {t' : Nat} {d' : Drawn} {ch : List Addr} (I : Inv X pins σ H s)
    (hch : ∀ b ∈ ch, (b ∈ X.ex ∨ X.s₀.heap.objs.size ≤ b) ∧ b ≠ X.env.locals ∧ (∀ x c, X.env.cells.lookup x = some c → c ≠ b) ∧ ∀ p ∈ X.pn ++ pins, p.1 ≠ b)
    (keep : ∀ b o, b ≠ X.env.locals → b ∉ X.fs → b ∉ ch → s.heap.get? b = some o → H b = none → h'.get? b = some o)
    (slot : ∀ b o, b ≠ X.env.locals → b ∈ X.fs → b ∉ ch → s.heap.get? b = some o → H b = none → ∃ sl, h'.get? b = some { o with slots := sl }) (free : ∀ b o, b ∉ ch → s.heap.get? b = some o → H b = none → H' b = none)
    (there : ∀ b o, b ∉ ch → s.heap.get? b = some o → ∃ o', h'.get? b = some o')
    (tups : ∀ b xs, H b = some (.tup xs) → H' b = some (.tup xs)) (frzs : ∀ b o u, H b = some (.frz o u) → H' b = some (.frz o u)) (tbls : ∀ b ps, H b = some (.tbl ps) → ∃ more, H' b = some (.tbl (ps ++ more)))
    (ns : ∀ m, s.heap.Ns X.env.locals m → h'.Ns X.env.locals m) (hok : HOk X.prog X.w H' h') (hg : AllBare g') :
    Inv X pins σ H' { s with heap := h', gens := g', drawn := d', toks := t' } := by
  have neL : ∀ b o, X.s₀.heap.get? b = some o → b ≠ X.env.locals := fun b o e => Nat.ne_of_lt (Nat.lt_of_lt_of_le (Heap.lt_size e) I.ok.above)
  have neC : ∀ b o, X.s₀.heap.get? b = some o → b ∉ X.ex → b ∉ ch := fun b o e hx hb => by
    rcases (hch b hb).1 with z | z
    · exact hx z
    · exact absurd (Nat.lt_of_lt_of_le (Heap.lt_size e) z) (Nat.lt_irrefl _)
  have cellK : ∀ x c, X.env.cells.lookup x = some c → ∀ v, s.heap.IsCell c v → h'.IsCell c v := fun x c e v ⟨o, ho, hd⟩ => by
    have nch : c ∉ ch := fun z => (hch c z).2.2.1 x c e rfl
    by_cases hc : c ∈ X.fs
    · obtain ⟨sl, q⟩ := slot c o (I.cne x c e) hc nch ho (I.freeC x c e)
      exact ⟨_, q, hd⟩
    · exact ⟨o, keep c o (I.cne x c e) hc nch ho (I.freeC x c e), hd⟩
  refine ⟨I.ok, I.os, hg, ⟨fun b o e n hb hx => ?_, fun b o e n hb hx => ?_, fun b o e n hx => ?_, fun b o e hx => ?_, fun b xs e => tups b xs (I.base.tups b xs e), fun b o xs e => frzs b o xs (I.base.frzs b o xs e), fun b ps e => ?_⟩, ?_, fun x c e => ?_, ?_, fun x c e => ?_, fun p hp => ?_, hok, I.len⟩
  · exact keep b o (neL b o e) hb (neC b o e hx) (I.base.keep b o e n hb hx) (I.base.free b o e n hx)
  · obtain ⟨sl, e1⟩ := I.base.slot b o e n hb hx
    obtain ⟨sl', e2⟩ := slot b _ (neL b o e) hb (neC b o e hx) e1 (I.base.free b o e n hx)
    exact ⟨sl', e2⟩
  · obtain ⟨o', e1⟩ := I.base.there b o e hx
    exact free b o' (neC b o e hx) e1 (I.base.free b o e n hx)
  · obtain ⟨o', e1⟩ := I.base.there b o e hx
    exact there b o' (neC b o e hx) e1
  · obtain ⟨m1, e1⟩ := I.base.tbls b ps e
    obtain ⟨m2, e2⟩ := tbls b _ e1
    exact ⟨m1 ++ m2, by rw [e2, Array.append_assoc]⟩
  · obtain ⟨m, hn, hl⟩ := I.loc
    refine ⟨m, ns m hn, fun i x v e1 e2 e3 => ?_⟩
    obtain ⟨u, r, l⟩ := hl i x v e1 e2 e3
    refine ⟨u, r, ?_⟩
    rcases l with l | ⟨k, c, e, z⟩
    · exact .inl l
    · exact .inr ⟨k, c, e, cellK x c e _ z⟩
  · obtain ⟨v, z⟩ := I.cell x c e
    exact ⟨v, cellK x c e v z⟩
  · obtain ⟨m, ⟨o, _, _, ho, _⟩, _⟩ := I.loc
    exact free _ o (fun z => (hch _ z).2.1 rfl) ho I.free
  · obtain ⟨v, o, ho, hd⟩ := I.cell x c e
    exact free c o (fun z => (hch c z).2.2.1 x c e rfl) ho (I.freeC x c e)
  · obtain ⟨e, n, ne, nf, d⟩ := I.pin p hp
    have nch : p.1 ∉ ch := fun z => (hch p.1 z).2.2.2 p hp rfl
    exact ⟨keep p.1 p.2 ne nf nch e n, free p.1 p.2 nch e n, ne, nf, d⟩
/-- .. where the frame's own object is kept too -/
theorem Inv.un {t' : Nat} (I : Inv X pins σ H s) (u : Un X.fs [] H H' s.heap h') (hok : HOk X.prog X.w H' h') : Inv X pins σ H' { s with heap := h', toks := t' } := by
  obtain ⟨m, ⟨o, es, ep, ho, r⟩, _⟩ := id I.loc
  obtain ⟨sl, hL⟩ := u.any ho I.free (by simp)
  exact I.step (g' := s.gens) (d' := s.drawn) (ch := []) (fun _ z => nomatch z) (fun b o _ hb _ e n => u.keep b o e n hb (by simp)) (fun b o _ hb _ e n => u.slot b o e n hb (by simp)) (fun b o _ e n => u.free b o e n (by simp)) (fun b o _ e => u.there b o e (by simp)) u.tups u.frzs u.tbls (fun m' hm => by
    obtain ⟨o', es', ep', ho', r'⟩ := hm
    rw [ho] at ho'; cases ho'
    exact ⟨_, es', ep', hL, r'⟩) hok I.bare
/-- behind a call (or a comprehension's block): the slots of this frame may have changed too, the records at ch may have turned -/
theorem Inv.call {g' : Array GenState} {t' : Nat} {d' : Drawn} {ch : List Addr} (I : Inv X pins σ H s) (u : Un (frs X.stack) ch H H' s.heap h') (hok : HOk X.prog X.w H' h') (hg : AllBare g')
    (hch : ∀ b ∈ ch, (b ∈ X.ex ∨ X.s₀.heap.objs.size ≤ b) ∧ b ≠ X.env.locals ∧ (∀ x c, X.env.cells.lookup x = some c → c ≠ b) ∧ ∀ p ∈ X.pn ++ pins, p.1 ≠ b) :
    Inv X pins σ H' { s with heap := h', gens := g', drawn := d', toks := t' } := by
  obtain ⟨m, ⟨o, es, ep, ho, r⟩, _⟩ := id I.loc
  obtain ⟨sl, hL⟩ := u.any ho I.free fun z => (hch _ z).2.1 rfl
  exact I.step (ch := ch) hch (fun b o hL hb hc e n => u.keep b o e n (fun z => (List.mem_cons.mp (I.stkSub b z)).elim hL hb) hc) (fun b o _ _ hc e n => u.any e n hc) (fun b o hc e n => u.free b o e n hc) (fun b o hc e => u.there b o e hc) u.tups u.frzs u.tbls (fun m' hm => by
    obtain ⟨o', es', ep', ho', r'⟩ := hm
    rw [ho] at ho'; cases ho'
    exact ⟨_, es', ep', hL, r'⟩) hok hg
/-- an untracked record of ours (an iterator) has turned -/
theorem Inv.turned {t' : Nat} {it : Addr} (I : Inv X pins σ H s) (k : ∀ b o, b ≠ it → s.heap.get? b = some o → h'.get? b = some o) (hn : H it = none) (hL : it ≠ X.env.locals)
    (h1 : it ∈ X.ex ∨ X.s₀.heap.objs.size ≤ it) (h2 : ∀ x c, X.env.cells.lookup x = some c → c ≠ it) (h3 : ∀ p ∈ X.pn ++ pins, p.1 ≠ it) : Inv X pins σ H { s with heap := h', toks := t' } := by
  have nit : ∀ b u, H b = some u → b ≠ it := fun b u e z => by rw [z, hn] at e; cases e
  refine I.step (g' := s.gens) (d' := s.drawn) (ch := [it]) (fun b hb => ?_) (fun b o _ _ hc e _ => k b o (fun z => hc (by simp [z])) e) (fun b o _ _ hc e _ => ⟨o.slots, k b o (fun z => hc (by simp [z])) e⟩) (fun _ _ _ _ n => n)
    (fun b o hc e => ⟨o, k b o (fun z => hc (by simp [z])) e⟩) (fun _ _ e => e) (fun _ _ _ e => e) (fun b ps e => ⟨#[], by rw [e]; simp⟩) (fun m hm => ?_) (fun b u e => ?_) I.bare
  · have e : b = it := by simpa using hb
    subst e
    exact ⟨h1, hL, h2, h3⟩
  · obtain ⟨o, es, ep, ho, r⟩ := hm
    exact ⟨o, es, ep, k _ o (Ne.symm hL) ho, r⟩
  · refine (I.hok b u e).stay (fun c v hc q => k c v ?_ q) (fun _ q => q) fun _ _ q => q
    rcases hc with z | z
    · rw [z]; exact nit b u e
    · exact nit c _ z
theorem Inv.tok (I : Inv X pins σ H s) (t : Nat) : Inv X pins σ H { s with toks := t } := I.un (h' := s.heap) (t' := t) Un.refl I.hok
/-- all objects kept -/
theorem Inv.kept {t' : Nat} (I : Inv X pins σ H s) (k : ∀ b u, s.heap.get? b = some u → h'.get? b = some u) : Inv X pins σ H { s with heap := h', toks := t' } := I.un (Un.kept k) (I.hok.kept k)
/-- a new object laid and tracked -/
theorem Inv.laid {a : Addr} {o : HO} {t' : Nat} (I : Inv X pins σ H s) (k : ∀ b u, s.heap.get? b = some u → h'.get? b = some u) (hp : s.heap.objs.size ≤ a) (new : ObjOk X.prog X.w (upd H a o) h' a o) :
    Inv X pins σ (upd H a o) { s with heap := h', toks := t' } := I.un (Un.laid k hp (I.hok.fresh hp)) (I.hok.laid k hp new)
/-- an object written -/
theorem Inv.write {x e : Addr} {o : HO} {t' : Nat} (I : Inv X pins σ H s) (mu : Mut (H x)) (he : e = x ∨ H e = some (.own x)) (k : ∀ b u, b ≠ e → s.heap.get? b = some u → h'.get? b = some u) (heo : ∃ u, h'.get? e = some u)
    (new : ObjOk X.prog X.w (upd H x o) h' x o) : Inv X pins σ (upd H x o) { s with heap := h', toks := t' } := I.un (Un.write mu he k heo) (I.hok.write mu he k heo new)
/-- forgetting slots, pins -/
theorem Inv.weak {σ' : List (Option V)} (I : Inv X pins σ H s) (hl : σ'.length = σ.length) (w : ∀ (i : Nat) v, σ'[i]? = some (some v) → σ[i]? = some (some v)) : Inv X pins σ' H s :=
  ⟨I.ok, I.os, I.bare, I.base, let ⟨m, hn, hl'⟩ := I.loc; ⟨m, hn, fun i x v e1 e2 e3 => hl' i x v e1 (w i v e2) e3⟩, I.cell, I.free, I.freeC, I.pin, I.hok, hl.trans I.len⟩
theorem Inv.pins_of {pins' : List (Addr × Obj)} (I : Inv X pins σ H s) (h : ∀ p ∈ pins', s.heap.get? p.1 = some p.2 ∧ H p.1 = none ∧ p.1 ≠ X.env.locals ∧ p.1 ∉ X.fs ∧ ∀ v, p.2.data ≠ .cell v) : Inv X pins' σ H s :=
  ⟨I.ok, I.os, I.bare, I.base, I.loc, I.cell, I.free, I.freeC, fun p hp => (List.mem_append.mp hp).elim (fun z => I.pin p (List.mem_append_left _ z)) (h p), I.hok, I.len⟩

theorem nodup_ix {N : List Str} (hN : N.Nodup) {i j : Nat} {x : Str} (a : N[i]? = some x) (b : N[j]? = some x) : i = j := by
  obtain ⟨h1, e1⟩ := List.getElem?_eq_some_iff.mp a
  obtain ⟨h2, e2⟩ := List.getElem?_eq_some_iff.mp b
  exact (List.getElem_inj hN).mp (e1.trans e2.symm)

/-- a name is stored; what changed -/
theorem store_ok2 {M : Model} {A : Around} {E : Value → Shared → Prop} {i : Nat} {x : Str} {v : V} {u : Value} {Q : Unit → Shared → Prop} (I : Inv X pins σ H s) (hN : X.N.Nodup) (hi : X.N[i]? = some x) (hx : Loc X.env.scope x) (r : RelV v u)
    (h : ∀ s', Inv X pins (σ.set i (some v)) H s' → (∃ a, Heap.SameBut a s.heap s'.heap ∧ (a = X.env.locals ∨ X.env.cells.lookup x = some a)) → Q () s') (hf : X.fn x = true ∨ X.env.scope.names.lookup x = some .local := by first | exact .inl rfl | exact .inr rfl | assumption) : wpAny M A (storeName X.env x u) Q E s := by
  obtain ⟨m, hn, hl⟩ := id I.loc
  have hcls : (X.env.scope.kind == .class || (X.env.scope.kind == .module && X.env.locals != X.env.globals)) = false := by rw [I.ok.kind]; rfl
  have hiσ : i < σ.length := by rw [I.len]; exact (List.getElem?_eq_some_iff.mp hi).1
  have cne := I.cne
  have tracked : ∀ {a : Addr} {h' : Heap}, (∃ o, s.heap.get? a = some o ∧ H a = none) → Heap.SameBut a s.heap h' → HOk X.prog X.w H h' := fun {a h'} ha hs b ob e => by
    obtain ⟨_, _, hfree⟩ := ha
    refine (I.hok b ob e).stay (fun c w' hc q => (hs.2 c ?_).trans q) (fun _ q => q) fun _ _ q => q
    rintro rfl
    rcases hc with rfl | hc
    · rw [hfree] at e; cases e
    · rw [hfree] at hc; cases hc
  rcases hx with hk | hk
  · refine wpAny_storeName_local hk hn (fun h' hn' hs => ?_) hcls
    obtain ⟨oL, _, _, hoL, _⟩ := id hn
    refine h _ ⟨I.ok, I.os, I.bare, ⟨fun b o e n hb hx => ?_, fun b o e n hb hx => ?_, I.base.free, fun b o e hx => ?_, I.base.tups, I.base.frzs, I.base.tbls⟩, ⟨_, hn', fun j y v' e1 e2 e3 => ?_⟩, fun y c e => ?_, I.free, I.freeC, fun p hp => ?_, tracked ⟨oL, hoL, I.free⟩ hs, by simpa using I.len⟩ ⟨_, hs, .inl rfl⟩
    · exact (hs.2 b (Nat.ne_of_lt (Nat.lt_of_lt_of_le (Heap.lt_size e) I.ok.above))).trans (I.base.keep b o e n hb hx)
    · obtain ⟨sl, e1⟩ := I.base.slot b o e n hb hx
      exact ⟨sl, (hs.2 b (Nat.ne_of_lt (Nat.lt_of_lt_of_le (Heap.lt_size e) I.ok.above))).trans e1⟩
    · obtain ⟨o', e1⟩ := I.base.there b o e hx
      exact ⟨o', (hs.2 b (Nat.ne_of_lt (Nat.lt_of_lt_of_le (Heap.lt_size e) I.ok.above))).trans e1⟩
    · by_cases hj : j = i
      · subst hj
        rw [hi] at e1; cases e1
        rw [List.getElem?_set_self hiσ] at e2
        cases e2
        exact ⟨u, r, .inl ⟨hk, by simp⟩⟩
      · rw [List.getElem?_set_ne (Ne.symm hj)] at e2
        obtain ⟨u', r', q⟩ := hl j y v' e1 e2 e3
        refine ⟨u', r', ?_⟩
        rcases q with ⟨k, e⟩ | ⟨k, c, e, z⟩
        · refine .inl ⟨k, ?_⟩
          have : y ≠ x := fun e => hj (nodup_ix hN e1 (e ▸ hi))
          simp [this, e]
        · exact .inr ⟨k, c, e, z.sameBut hs (cne y c e)⟩
    · obtain ⟨w', z⟩ := I.cell y c e
      exact ⟨w', z.sameBut hs (cne y c e)⟩
    · obtain ⟨e, n, ne, nf, d⟩ := I.pin p hp
      exact ⟨(hs.2 p.1 ne).trans e, n, ne, nf, d⟩
  · have hfn : X.fn x = true := by
      rcases hf with z | z
      · exact z
      · rw [z] at hk; cases hk
    obtain ⟨c, hc⟩ := I.ok.has x (.inl hk)
    obtain ⟨w', z⟩ := I.cell x c hc
    refine wpAny_storeName_cell I.ok.kind hk hc z (fun h' hc' hs => ?_)
    obtain ⟨oc, hoc, hocd⟩ := id z
    refine h { s with heap := h' } ⟨I.ok, I.os, I.bare, ⟨fun b o e n hb hx => ?_, fun b o e n hb hx => ?_, I.base.free, fun b o e hx => ?_, I.base.tups, I.base.frzs, I.base.tbls⟩, ⟨m, hn.sameBut hs (Ne.symm (cne x c hc)), fun j y v' e1 e2 e3 => ?_⟩, fun y c' e => ?_, I.free, I.freeC, fun p hp => ?_, tracked ⟨oc, hoc, I.freeC x c hc⟩ hs, by simpa using I.len⟩ ⟨c, hs, .inr hc⟩
    · exact (hs.2 b (Nat.ne_of_lt (Nat.lt_of_lt_of_le (Heap.lt_size e) (I.ok.cab x c hfn hc)))).trans (I.base.keep b o e n hb hx)
    · obtain ⟨sl, e1⟩ := I.base.slot b o e n hb hx
      exact ⟨sl, (hs.2 b (Nat.ne_of_lt (Nat.lt_of_lt_of_le (Heap.lt_size e) (I.ok.cab x c hfn hc)))).trans e1⟩
    · obtain ⟨o', e1⟩ := I.base.there b o e hx
      exact ⟨o', (hs.2 b (Nat.ne_of_lt (Nat.lt_of_lt_of_le (Heap.lt_size e) (I.ok.cab x c hfn hc)))).trans e1⟩
    · by_cases hj : j = i
      · subst hj
        rw [hi] at e1; cases e1
        rw [List.getElem?_set_self hiσ] at e2
        cases e2
        exact ⟨u, r, .inr ⟨.inl hk, c, hc, hc'⟩⟩
      · rw [List.getElem?_set_ne (Ne.symm hj)] at e2
        obtain ⟨u', r', q⟩ := hl j y v' e1 e2 e3
        refine ⟨u', r', ?_⟩
        rcases q with q | ⟨k, c', e, z'⟩
        · exact .inl q
        · refine .inr ⟨k, c', e, z'.sameBut hs ?_⟩
          rintro rfl
          exact hj (nodup_ix hN e1 (I.ok.inj _ _ _ e hc ▸ hi))
    · by_cases hcc : c' = c
      · subst hcc; exact ⟨_, hc'⟩
      · obtain ⟨w2, z2⟩ := I.cell y c' e
        exact ⟨w2, z2.sameBut hs hcc⟩
    · obtain ⟨e, n, ne, nf, d⟩ := I.pin p hp
      refine ⟨(hs.2 p.1 ?_).trans e, n, ne, nf, d⟩
      intro q
      rw [q, hoc] at e
      have q' : oc = p.2 := Option.some.inj e
      exact d w' (by rw [← q']; exact hocd)
theorem store_ok {M : Model} {A : Around} {E : Value → Shared → Prop} {i : Nat} {x : Str} {v : V} {u : Value} {Q : Unit → Shared → Prop} (I : Inv X pins σ H s) (hN : X.N.Nodup) (hi : X.N[i]? = some x) (hx : Loc X.env.scope x) (r : RelV v u)
    (h : ∀ s', Inv X pins (σ.set i (some v)) H s' → Q () s') (hf : X.fn x = true ∨ X.env.scope.names.lookup x = some .local := by first | exact .inl rfl | exact .inr rfl | assumption) : wpAny M A (storeName X.env x u) Q E s :=
  store_ok2 I hN hi hx r (fun s' I' _ => h s' I') hf
/-- behind a call or a block, the state as it is -/
theorem Inv.call' {s' : Shared} {ch : List Addr} (I : Inv X pins σ H s) (ho : s'.os = s.os) (u : Un (frs X.stack) ch H H' s.heap s'.heap) (hok : HOk X.prog X.w H' s'.heap) (hg : AllBare s'.gens)
    (hch : ∀ b ∈ ch, (b ∈ X.ex ∨ X.s₀.heap.objs.size ≤ b) ∧ b ≠ X.env.locals ∧ (∀ x c, X.env.cells.lookup x = some c → c ≠ b) ∧ ∀ p ∈ X.pn ++ pins, p.1 ≠ b) : Inv X pins σ H' s' := by
  obtain ⟨h', g', d', t', o'⟩ := s'
  have e : o' = s.os := ho
  subst e
  exact I.call (g' := g') (t' := t') (d' := d') u hok hg hch
end

/-! ### the judgements -/
/-- an exception: its class, its own dict's address (where it has one), the abstract heap behind it -/
abbrev XK := Value → Option Addr → Hp → Prop
abbrev St := List (Option V)
abbrev VK := V → Hp → Prop
/-- an expression's reading; a test's; an argument list's -/
abbrev TE := St → Hp → VK → Prop
abbrev TT := St → Hp → (Bool → Hp → Prop) → Prop
abbrev TA := St → Hp → (List V → Hp → Prop) → Prop
/-- what is wanted behind a statement -/
structure Ends where
  nx : St → Hp → Prop
  rt : VK
  bk : St → Hp → Prop := fun _ _ => False
  ct : St → Hp → Prop := fun _ _ => False
abbrev TS := Ends → St → Hp → Prop

def EP (X : Cx) (pins : List (Addr × Obj)) (σ : St) (Q : VK) (u : Value) (s' : Shared) : Prop := ∃ v H', Inv X pins σ H' s' ∧ RelV v u ∧ Q v H'
def TP (X : Cx) (pins : List (Addr × Obj)) (σ : St) (Q : Bool → Hp → Prop) (b : Bool) (s' : Shared) : Prop := ∃ H', Inv X pins σ H' s' ∧ Q b H'
def AP (X : Cx) (pins : List (Addr × Obj)) (σ : St) (Q : List V → Hp → Prop) (us : List Value) (s' : Shared) : Prop := ∃ vs H', Inv X pins σ H' s' ∧ Vals vs us ∧ Q vs H'
def SP (X : Cx) (pins : List (Addr × Obj)) (D : Ends) (f : Flow) (s' : Shared) : Prop :=
  match f with
  | .next => ∃ σ' H', Inv X pins σ' H' s' ∧ D.nx σ' H'
  | .brk => ∃ σ' H', Inv X pins σ' H' s' ∧ D.bk σ' H'
  | .cont => ∃ σ' H', Inv X pins σ' H' s' ∧ D.ct σ' H'
  | .ret u => ∃ v σ' H', Inv X pins σ' H' s' ∧ RelV v u ∧ D.rt v H'

def PE (X : Cx) (e : Expr) (t : TE) : Prop :=
  ∀ (pins : List (Addr × Obj)) (s : Shared) (σ : St) (H : Hp) (Q : VK), Inv X pins σ H s → t σ H Q → wpAny (model X.prog X.w) X.A (eval e X.env) (EP X pins σ Q) X.xe s
def PT (X : Cx) (e : Expr) (t : TT) : Prop :=
  ∀ (pins : List (Addr × Obj)) (s : Shared) (σ : St) (H : Hp) (Q : Bool → Hp → Prop), Inv X pins σ H s → t σ H Q → wpAny (model X.prog X.w) X.A (isTrue e X.env (eval e X.env)) (TP X pins σ Q) X.xe s
/-- a test whatever its 'whole' is (and, or) -/
def PW (X : Cx) (e : Expr) (t : TT) : Prop :=
  ∀ (whole : Sem Value) (pins : List (Addr × Obj)) (s : Shared) (σ : St) (H : Hp) (Q : Bool → Hp → Prop), Inv X pins σ H s → t σ H Q → wpAny (model X.prog X.w) X.A (isTrue e X.env whole) (TP X pins σ Q) X.xe s
theorem PW.pt {X : Cx} {e : Expr} {t : TT} (h : PW X e t) : PT X e t := h _
/-- an argument list (no star), from the left -/
def PA (X : Cx) (es : List Expr) (t : TA) : Prop :=
  ∀ (pos : Pos) (pins : List (Addr × Obj)) (s : Shared) (σ : St) (H : Hp) (Q : List V → Hp → Prop), Inv X pins σ H s → t σ H Q → wpAny (model X.prog X.w) X.A (spliced (backTo pos (starEach es X.env))) (AP X pins σ Q) X.xe s
def PS (X : Cx) (st : Stmt) (t : TS) : Prop :=
  ∀ (pins : List (Addr × Obj)) (s : Shared) (σ : St) (H : Hp) (D : Ends), Inv X pins σ H s → t D σ H → wpAny (model X.prog X.w) X.A (exec st X.env) (SP X pins D) X.xe s
def PSs (X : Cx) (st : List Stmt) (t : TS) : Prop :=
  ∀ (pins : List (Addr × Obj)) (s : Shared) (σ : St) (H : Hp) (D : Ends), Inv X pins σ H s → t D σ H → wpAny (model X.prog X.w) X.A (execs st X.env) (SP X pins D) X.xe s
/-- weaken the end -/
theorem thn {α : Type} {t : Sem α} {Q Q' : α → Shared → Prop} {M : Model} {A : Around} {E : Value → Shared → Prop} {s : Shared} (h : wpAny M A t Q E s) (hQ : ∀ a s, Q a s → Q' a s) : wpAny M A t Q' E s := wpAny_mono h hQ fun _ _ x => x
end L2

namespace L2
open PySem PySem.Spec PyProof.Rows
section
variable {X : Cx}

/-- two expressions in a row -/
theorem bin {a b : Expr} {ta tb : TE} (ha : PE X a ta) (hb : PE X b tb) {pins : List (Addr × Obj)} {s : Shared} {σ : St} {H : Hp} {R : V → V → Hp → Prop} (I : Inv X pins σ H s) (h : ta σ H fun x H1 => tb σ H1 fun y H2 => R x y H2)
    {α : Type} {Q : α → Shared → Prop} {f : Value → Value → Sem α}
    (hf : ∀ v u s2 x y H2, Inv X pins σ H2 s2 → RelV x v → RelV y u → R x y H2 → wpAny (model X.prog X.w) X.A (f v u) Q X.xe s2) :
    wpAny (model X.prog X.w) X.A (eval a X.env) (fun v s₁ => wpAny (model X.prog X.w) X.A (eval b X.env) (fun u s₂ => wpAny (model X.prog X.w) X.A (f v u) Q X.xe s₂) X.xe s₁) X.xe s := by
  refine thn (ha pins s σ H _ I h) fun v s1 ⟨x, H1, I1, r1, q1⟩ => ?_
  refine thn (hb pins s1 σ H1 _ I1 q1) fun u s2 ⟨y, H2, I2, r2, q2⟩ => ?_
  exact hf v u s2 x y H2 I2 r1 r2 q2

/-! ### names and constants -/
def tVar (i : Nat) : TE := fun σ H Q => ∃ v, σ[i]? = some (some v) ∧ Q v H
def tC (v : V) : TE := fun _ H Q => Q v H
theorem pe_var {i : Nat} {x : Str} {pos : Pos} (hN : X.N[i]? = some x) (hv : Vis X.env.scope x) (hd : (x == ("__debug__" : Str)) = false := by decide) (hcd : (x == ("__classdict__" : Str)) = false := by decide) : PE X (.Name x pos) (tVar i) := by
  intro pins s σ H Q I h
  obtain ⟨v, e, h⟩ := h
  obtain ⟨m, hn, hl⟩ := I.loc
  obtain ⟨u, r, l⟩ := hl i x v hN e hv
  have fin : EP X pins σ Q u s := ⟨v, H, I, r, h⟩
  rcases l with ⟨hk, hm⟩ | ⟨hk, c, hc, hcell⟩
  · exact wpAny_Name (wpAny_loadName_local I.ok.kind hk hn hm fin) hd
  · rcases hk with hk | hk
    · exact wpAny_Name (wpAny_loadName_cell I.ok.kind hk hc hcell fin) hd
    · exact wpAny_Name (wpAny_loadName_free I.ok.kind hk hc hcell fin hcd) hd
theorem pe_int {i j pos} : PE X (.Constant (.int i) j pos) (tC (.int i)) := fun _ _ _ H _ I h => wpAny_Constant_int ⟨.int i, H, I.tok _, ⟨_, rfl⟩, h⟩
theorem pe_bl {b j pos} : PE X (.Constant (.bool b) j pos) (tC (.bl b)) := fun _ _ _ H _ I h => Constant_bool ⟨.bl b, H, I, rfl, h⟩
theorem pe_non {j pos} : PE X (.Constant .none j pos) (tC .non) := fun _ _ _ H _ I h => Constant_none ⟨.non, H, I, rfl, h⟩
theorem pe_str {x j pos} : PE X (.Constant (.str x) j pos) (tC (.str x)) := fun _ _ _ H _ I h => Calls.Constant_str ⟨.str x, H, I.tok _, ⟨_, rfl⟩, h⟩

/-- a global name of the def -/
def Gl (X : Cx) (x : Str) : Prop := X.env.kindOf x = some .globalImplicit
theorem ld_glob {E : Value → Shared → Prop} {pins : List (Addr × Obj)} {s : Shared} {σ : St} {H : Hp} {x : Str} {u : Value} {pos : Pos} {Q : Value → Shared → Prop} (I : Inv X pins σ H s) (hg : Gl X x) (hm : X.mg x = some u) (h : Q u s)
    (hd : (x == ("__debug__" : Str)) = false := by decide) : wpAny (model X.prog X.w) X.A (eval (.Name x pos) X.env) Q E s :=
  Calls.Name_function_global I.ok.kind hg (Calls.loadGlobal_global (by rw [I.ok.glob]; exact I.mod.glob.keeps I.bk) hm h) hd
theorem ld_blt {E : Value → Shared → Prop} {pins : List (Addr × Obj)} {s : Shared} {σ : St} {H : Hp} {x : Str} {u : Value} {pos : Pos} {Q : Value → Shared → Prop} (I : Inv X pins σ H s) (hg : Gl X x) (hm : X.mg x = none) (hv : bootBuiltins x = some u) (h : Q u s)
    (hn : x ≠ "__name__" := by decide) (hd : (x == ("__debug__" : Str)) = false := by decide) : wpAny (model X.prog X.w) X.A (eval (.Name x pos) X.env) Q E s := by
  obtain ⟨mb, h1, h2⟩ := I.mod.blt
  exact Calls.Name_function_global I.ok.kind hg (Calls.loadGlobal_builtin (by rw [I.ok.glob]; exact I.mod.glob.keeps I.bk) hm (by rw [I.ok.blt]; exact h1.keeps I.bk) ((h2 x hn).trans hv) h) hd
/-- a module's constant, a class, a function, as a value -/
theorem pe_glob {x : Str} {v : V} {u : Value} {pos : Pos} (hg : Gl X x) (hm : X.mg x = some u) (r : RelV v u) (hd : (x == ("__debug__" : Str)) = false := by decide) : PE X (.Name x pos) (tC v) :=
  fun _ _ _ H _ I h => ld_glob I hg hm ⟨v, H, I, r, h⟩ hd
theorem pe_bltn {x : Str} {v : V} {u : Value} {pos : Pos} (hg : Gl X x) (hm : X.mg x = none) (hv : bootBuiltins x = some u) (r : RelV v u) (hn : x ≠ "__name__" := by decide) (hd : (x == ("__debug__" : Str)) = false := by decide) : PE X (.Name x pos) (tC v) :=
  fun _ _ _ H _ I h => ld_blt I hg hm hv ⟨v, H, I, r, h⟩ hn hd

/-! ### arithmetic -/
/-- two ints -/
def t2I (ta tb : TE) (k : Int → Int → Hp → Prop) : St → Hp → Prop := fun σ H => ta σ H fun x H1 => tb σ H1 fun y H2 => ∃ i j, x = .int i ∧ y = .int j ∧ k i j H2
def tAdd (ta tb : TE) : TE := fun σ H Q => t2I ta tb (fun i j H2 => Q (.int (i + j)) H2) σ H
def tSub (ta tb : TE) : TE := fun σ H Q => t2I ta tb (fun i j H2 => Q (.int (i - j)) H2) σ H
/-- the left factor below 2^64 -/
def tMul (ta tb : TE) : TE := fun σ H Q => t2I ta tb (fun i j H2 => (-(2 ^ 64) < i ∧ i < 2 ^ 64) ∧ Q (.int (i * j)) H2) σ H
variable {a b : Expr} {ta tb : TE} {pos : Pos}
theorem pe_add (ha : PE X a ta) (hb : PE X b tb) : PE X (.BinOp a .Add b pos) (tAdd ta tb) := by
  intro pins s σ H Q I h
  refine wpAny_BinOp (bin ha hb I h fun v u s2 x y H2 I2 rx ry q => ?_)
  obtain ⟨i, j, rfl, rfl, q⟩ := q
  obtain ⟨t, rfl⟩ := rx
  obtain ⟨t', rfl⟩ := ry
  exact add_int ⟨.int _, H2, I2.tok _, ⟨_, rfl⟩, q⟩
theorem pe_sub (ha : PE X a ta) (hb : PE X b tb) : PE X (.BinOp a .Sub b pos) (tSub ta tb) := by
  intro pins s σ H Q I h
  refine wpAny_BinOp (bin ha hb I h fun v u s2 x y H2 I2 rx ry q => ?_)
  obtain ⟨i, j, rfl, rfl, q⟩ := q
  obtain ⟨t, rfl⟩ := rx
  obtain ⟨t', rfl⟩ := ry
  exact sub_int ⟨.int _, H2, I2.tok _, ⟨_, rfl⟩, q⟩
theorem pe_mul (ha : PE X a ta) (hb : PE X b tb) : PE X (.BinOp a .Mult b pos) (tMul ta tb) := by
  intro pins s σ H Q I h
  refine wpAny_BinOp (bin ha hb I h fun v u s2 x y H2 I2 rx ry q => ?_)
  obtain ⟨i, j, rfl, rfl, ⟨q1, q2⟩, q⟩ := q
  obtain ⟨t, rfl⟩ := rx
  obtain ⟨t', rfl⟩ := ry
  exact mul_int ⟨.int _, H2, I2.tok _, ⟨_, rfl⟩, q⟩ (.of_left (intBits_le_64 q1 q2))

/-! ### comparisons -/
def PC (X : Cx) (op : CmpOp) (a b : Expr) (t : TE) : Prop :=
  ∀ (pins : List (Addr × Obj)) (s : Shared) (σ : St) (H : Hp) (Q : VK), Inv X pins σ H s → t σ H Q →
    wpAny (model X.prog X.w) X.A (eval a X.env) (fun v s₁ => wpAny (model X.prog X.w) X.A (eval b X.env) (fun u s₂ => wpAny (model X.prog X.w) X.A (compareOp op v u) (EP X pins σ Q) X.xe s₂) X.xe s₁) X.xe s
theorem nobehind (b : Expr) {op : CmpOp} (h : op ≠ .In) (h2 : op ≠ .NotIn) : behindInMarks op b = false := by
  have e1 : (op == CmpOp.In) = false := by cases op <;> first | rfl | exact absurd rfl h
  have e2 : (op == CmpOp.NotIn) = false := by cases op <;> first | rfl | exact absurd rfl h2
  cases b <;> simp [behindInMarks, e1, e2]
def tCmp (p : Int → Int → Bool) (ta tb : TE) : TE := fun σ H Q => t2I ta tb (fun i j H2 => Q (.bl (p i j)) H2) σ H
abbrev tLt : TE → TE → TE := tCmp fun i j => decide (i < j)
abbrev tLe : TE → TE → TE := tCmp fun i j => decide (i ≤ j)
abbrev tGt : TE → TE → TE := tCmp fun i j => decide (j < i)
abbrev tGe : TE → TE → TE := tCmp fun i j => decide (j ≤ i)
abbrev tEqI : TE → TE → TE := tCmp fun i j => decide (i = j)
abbrev tNeI : TE → TE → TE := tCmp fun i j => !decide (i = j)
/-- a comparison of two ints, by its rule -/
theorem pc_int {op : CmpOp} {p : Int → Int → Bool} (ha : PE X a ta) (hb : PE X b tb)
    (rule : ∀ (i j : Int) (t u : Tok) (Q : Value → Shared → Prop) (s : Shared), Q (.bool (p i j)) s → wpAny (model X.prog X.w) X.A (compareOp op (.int i t) (.int j u)) Q X.xe s) : PC X op a b (tCmp p ta tb) := by
  intro pins s σ H Q I h
  refine bin ha hb I h fun v u s2 x y H2 I2 rx ry q => ?_
  obtain ⟨i, j, rfl, rfl, q⟩ := q
  obtain ⟨t, rfl⟩ := rx
  obtain ⟨t', rfl⟩ := ry
  exact rule i j t t' _ s2 ⟨.bl _, H2, I2, rfl, q⟩
theorem pc_lt (ha : PE X a ta) (hb : PE X b tb) : PC X .Lt a b (tLt ta tb) := pc_int ha hb fun _ _ _ _ _ _ h => lt_int h
theorem pc_le (ha : PE X a ta) (hb : PE X b tb) : PC X .LtE a b (tLe ta tb) := pc_int ha hb fun _ _ _ _ _ _ h => le_int h
theorem pc_gt (ha : PE X a ta) (hb : PE X b tb) : PC X .Gt a b (tGt ta tb) := pc_int ha hb fun _ _ _ _ _ _ h => gt_int h
theorem pc_ge (ha : PE X a ta) (hb : PE X b tb) : PC X .GtE a b (tGe ta tb) := pc_int ha hb fun _ _ _ _ _ _ h => ge_int h
theorem pc_eqI (ha : PE X a ta) (hb : PE X b tb) : PC X .Eq a b (tEqI ta tb) := pc_int ha hb fun _ _ _ _ _ _ h => eq_int (by rw [Bool.beq_eq_decide_eq]; exact h)
theorem pc_neI (ha : PE X a ta) (hb : PE X b tb) : PC X .NotEq a b (tNeI ta tb) := pc_int ha hb fun _ _ _ _ _ _ h => ne_int (by rw [bne, Bool.beq_eq_decide_eq]; exact h)
/-- is None -/
def tIsN (ta : TE) : TE := fun σ H Q => ta σ H fun x H1 => Q (.bl (decide (x = .non))) H1
def tNotN (ta : TE) : TE := fun σ H Q => ta σ H fun x H1 => Q (.bl (!decide (x = .non))) H1
theorem RelV.none_iff {x : V} {v : Value} (r : RelV x v) : (v == Value.none) = decide (x = .non) := by
  cases x with
  | non => cases r; rfl
  | bl _ => cases r; rfl
  | int _ => obtain ⟨t, rfl⟩ := r; rfl
  | str _ => obtain ⟨t, rfl⟩ := r; rfl
  | byt _ => obtain ⟨t, rfl⟩ := r; rfl
  | flt _ => obtain ⟨t, rfl⟩ := r; rfl
  | ref _ => cases r; rfl
  | ty _ => cases r; rfl
theorem pc_isN {j pos'} (ha : PE X a ta) : PC X .Is a (.Constant .none j pos') (tIsN ta) := by
  intro pins s σ H Q I h
  refine thn (ha pins s σ H _ I h) fun v s1 ⟨x, H1, I1, r1, q1⟩ => ?_
  exact Constant_none (is_none_gen ⟨.bl _, H1, I1, by rw [r1.none_iff]; rfl, q1⟩)
theorem pc_notN {j pos'} (ha : PE X a ta) : PC X .IsNot a (.Constant .none j pos') (tNotN ta) := by
  intro pins s σ H Q I h
  refine thn (ha pins s σ H _ I h) fun v s1 ⟨x, H1, I1, r1, q1⟩ => ?_
  exact Constant_none (isnot_none_gen ⟨.bl _, H1, I1, by rw [r1.none_iff]; rfl, q1⟩)
/-- a comparison as a value, as a test -/
def tB (t : TE) : TT := fun σ H Q => t σ H fun x H1 => ∃ c, x = .bl c ∧ Q c H1
theorem pe_cmp {op : CmpOp} {t : TE} (h : PC X op a b t) (h1 : behindInMarks op b = false := by first | exact nobehind _ (by decide) (by decide) | rfl) : PE X (.Compare a [op] [b] pos) t := fun pins s σ H Q I hw => wpAny_Compare1 (h pins s σ H Q I hw) h1
theorem pt_cmp {op : CmpOp} {t : TE} (h : PC X op a b t) (h1 : behindInMarks op b = false := by first | exact nobehind _ (by decide) (by decide) | rfl) : PT X (.Compare a [op] [b] pos) (tB t) := by
  intro pins s σ H Q I hw
  refine wpAny_isTrue_Compare1 (thn (h pins s σ H _ I hw) fun v s1 h1 => thn h1 fun u s2 h2 => thn h2 fun c s3 ⟨x, H1, I1, r1, q1⟩ => ?_) h1
  obtain ⟨d, rfl, q⟩ := q1
  cases r1
  exact wpAny_truthy_bool ⟨H1, I1, q⟩
/-- an expression whose value is a bool, as a test -/
theorem pt_val {e : Expr} {t : TE} (h : PE X e t) (he : ∀ whole, isTrue e X.env whole = (do let v ← whole; standAt e.pos; holding [v] (truthy v)) := by intro _; rfl) : PT X e (tB t) := by
  intro pins s σ H Q I hw
  refine isTrue_plain (thn (h pins s σ H _ I hw) fun v s1 ⟨x, H1, I1, r1, q1⟩ => ?_) (he _)
  obtain ⟨d, rfl, q⟩ := q1
  cases r1
  exact wpAny_truthy_bool ⟨H1, I1, q⟩

/-! ### and, or, not -/
variable {tA tB' : TT} {rest : List Expr}
def tAnd (t u : TT) : TT := fun σ H Q => t σ H fun c H1 => if c = true then u σ H1 Q else Q false H1
def tOr (t u : TT) : TT := fun σ H Q => t σ H fun c H1 => if c = true then Q true H1 else u σ H1 Q
def tNot (t : TT) : TT := fun σ H Q => t σ H fun c H1 => Q (!c) H1
theorem pw_and1 (ha : PT X a tA) : PW X (.BoolOp .And [a] pos) tA := by
  intro wh pins s σ H Q I h
  refine isTrue_and (thn (ha pins s σ H Q I h) fun c s1 e => ?_)
  cases c with
  | true => exact isTrue_and_nil e
  | false => exact e
theorem pw_or1 (ha : PT X a tA) : PW X (.BoolOp .Or [a] pos) tA := by
  intro wh pins s σ H Q I h
  refine isTrue_or (thn (ha pins s σ H Q I h) fun c s1 e => ?_)
  cases c with
  | false => exact isTrue_or_nil e
  | true => exact e
theorem pw_and (ha : PT X a tA) (hb : PW X (.BoolOp .And (b :: rest) pos) tB') : PW X (.BoolOp .And (a :: b :: rest) pos) (tAnd tA tB') := by
  intro wh pins s σ H Q I h
  refine isTrue_and (thn (ha pins s σ H _ I h) fun c s1 ⟨H1, I1, q1⟩ => ?_)
  cases c with
  | true => exact hb wh pins s1 σ H1 Q I1 q1
  | false => exact ⟨H1, I1, q1⟩
theorem pw_or (ha : PT X a tA) (hb : PW X (.BoolOp .Or (b :: rest) pos) tB') : PW X (.BoolOp .Or (a :: b :: rest) pos) (tOr tA tB') := by
  intro wh pins s σ H Q I h
  refine isTrue_or (thn (ha pins s σ H _ I h) fun c s1 ⟨H1, I1, q1⟩ => ?_)
  cases c with
  | true => exact ⟨H1, I1, q1⟩
  | false => exact hb wh pins s1 σ H1 Q I1 q1
theorem pt_not (ha : PT X a tA) : PT X (.UnaryOp .Not a pos) (tNot tA) := by
  intro pins s σ H Q I h
  exact isTrue_not (ha pins s σ H (fun c H1 => Q (!c) H1) I h)
/-- .. as values (bools) -/
def tAndV (ta tb : TE) : TE := fun σ H Q => ta σ H fun x H1 => ∃ c, x = .bl c ∧ if c = true then tb σ H1 Q else Q (.bl false) H1
def tOrV (ta tb : TE) : TE := fun σ H Q => ta σ H fun x H1 => ∃ c, x = .bl c ∧ if c = true then Q (.bl true) H1 else tb σ H1 Q
def tNotV (ta : TE) : TE := fun σ H Q => ta σ H fun x H1 => ∃ c, x = .bl c ∧ Q (.bl (!c)) H1
theorem pe_one {op} {t : TE} (h : PE X a t) : PE X (.BoolOp op [a] pos) t := fun pins s σ H Q I hw => BoolOp_one (h pins s σ H Q I hw)
theorem pe_and (ha : PE X a ta) (hb : PE X (.BoolOp .And (b :: rest) pos) tb) : PE X (.BoolOp .And (a :: b :: rest) pos) (tAndV ta tb) := by
  intro pins s σ H Q I h
  refine BoolOp_and (thn (ha pins s σ H _ I h) fun v s1 ⟨x, H1, I1, r1, q1⟩ => ?_)
  obtain ⟨c, rfl, q1⟩ := q1
  cases r1
  refine wpAny_truthy_bool ?_
  cases c with
  | true => exact hb pins s1 σ H1 Q I1 q1
  | false => exact ⟨.bl false, H1, I1, rfl, q1⟩
theorem pe_or (ha : PE X a ta) (hb : PE X (.BoolOp .Or (b :: rest) pos) tb) : PE X (.BoolOp .Or (a :: b :: rest) pos) (tOrV ta tb) := by
  intro pins s σ H Q I h
  refine BoolOp_or (thn (ha pins s σ H _ I h) fun v s1 ⟨x, H1, I1, r1, q1⟩ => ?_)
  obtain ⟨c, rfl, q1⟩ := q1
  cases r1
  refine wpAny_truthy_bool ?_
  cases c with
  | false => exact hb pins s1 σ H1 Q I1 q1
  | true => exact ⟨.bl true, H1, I1, rfl, q1⟩
theorem pe_not (ha : PE X a ta) : PE X (.UnaryOp .Not a pos) (tNotV ta) := by
  intro pins s σ H Q I h
  refine UnaryOp_ (thn (ha pins s σ H _ I h) fun v s1 ⟨x, H1, I1, r1, q1⟩ => ?_)
  obtain ⟨c, rfl, q1⟩ := q1
  cases r1
  exact not_of (wpAny_truthy_bool ⟨.bl (!c), H1, I1, rfl, q1⟩)
/-- a if t else b -/
def tIf (t : TT) (ta tb : TE) : TE := fun σ H Q => t σ H fun c H1 => if c = true then ta σ H1 Q else tb σ H1 Q
theorem pe_ifExp {c : Expr} (hc : PT X c tA) (ha : PE X a ta) (hb : PE X b tb) : PE X (.IfExp c a b pos) (tIf tA ta tb) := by
  intro pins s σ H Q I h
  refine wpAny_IfExp (thn (hc pins s σ H _ I h) fun d s1 ⟨H1, I1, q1⟩ => ?_)
  cases d with
  | true => exact ha pins s1 σ H1 Q I1 q1
  | false => exact hb pins s1 σ H1 Q I1 q1
end
end L2

namespace L2
open PySem PySem.Spec PyProof.Rows

/-! ### a list, a tuple that is read: tracked, frozen, or an object of the module -/
def SqL (K : PySem.W.Frag) (H : Hp) (a : Addr) (xs : List V) : Prop :=
  Rd H a (.lst xs) ∨
    ∃ (o : Obj) (its : Array Value) (n : Nat), K.lookup a = some o ∧ o.cls = .type "list" ∧ o.dict = none ∧ o.data = .seq its n ∧ its.size ≤ sizeLine ∧ Vals xs its.toList
def SqT (K : PySem.W.Frag) (H : Hp) (a : Addr) (xs : List V) : Prop :=
  Rd H a (.tup xs) ∨
    ∃ (o : Obj) (its : Array Value) (n : Nat), K.lookup a = some o ∧ o.cls = .type "tuple" ∧ o.data = .seq its n ∧ its.size ≤ sizeLine ∧ Vals xs its.toList
def absV : Value → Option V
  | .none => some .non
  | .bool b => some (.bl b)
  | .int i _ => some (.int i)
  | .str x _ => some (.str x)
  | .bytes b _ => some (.byt b)
  | .float b _ => some (.flt b)
  | .ref a => some (.ref a)
  | .type n => some (.ty n)
  | _ => none
theorem RelV.abs {x : V} {u : Value} (r : RelV x u) : absV u = some x := by
  cases x with
  | non => cases r; rfl
  | bl _ => cases r; rfl
  | int _ => obtain ⟨t, rfl⟩ := r; rfl
  | str _ => obtain ⟨t, rfl⟩ := r; rfl
  | byt _ => obtain ⟨t, rfl⟩ := r; rfl
  | flt _ => obtain ⟨t, rfl⟩ := r; rfl
  | ref _ => cases r; rfl
  | ty _ => cases r; rfl
theorem RelV.inj {x y : V} {u : Value} (r : RelV x u) (q : RelV y u) : x = y := Option.some.inj (r.abs.symm.trans q.abs)
theorem Vals.inj : ∀ {xs ys : List V} {us : List Value}, Vals xs us → Vals ys us → xs = ys
  | _, _, _, .nil, .nil => rfl
  | _, _, _, .cons r t, .cons r' t' => by rw [r.inj r', Vals.inj t t']
section
variable {X : Cx} {pins : List (Addr × Obj)} {σ : St} {H : Hp} {s : Shared} {a : Addr} {xs ys : List V}
theorem SqL.of {K : PySem.W.Frag} (h : H a = some (.lst xs)) : SqL K H a xs := .inl (.inl h)
theorem SqT.of {K : PySem.W.Frag} (h : H a = some (.tup xs)) : SqT K H a xs := .inl (.inl h)
theorem Inv.list (I : Inv X pins σ H s) (h : SqL X.K H a xs) : ∃ its : List Value, Vals xs its ∧ PlainL s.heap a its.toArray ∧ xs.length ≤ sizeLine := by
  rcases h with h | ⟨o, its, n, hk, hc, hd, hs, hz, r⟩
  · obtain ⟨z, its, n, r, e⟩ := h.ok I.hok
    exact ⟨its, r, ⟨_, n, e, rfl, rfl, rfl⟩, z⟩
  · refine ⟨its.toList, r, ⟨o, n, I.kIn a o hk, hc, hd, by simpa using hs⟩, ?_⟩
    have e := r.length
    simp only [Array.length_toList] at e
    omega
theorem Inv.tuple (I : Inv X pins σ H s) (h : SqT X.K H a xs) : ∃ its : List Value, Vals xs its ∧ IsTup s.heap a its.toArray ∧ xs.length ≤ sizeLine := by
  rcases h with h | ⟨o, its, n, hk, hc, hs, hz, r⟩
  · obtain ⟨z, its, r, p⟩ := h.ok I.hok
    exact ⟨its, r, p, z⟩
  · refine ⟨its.toList, r, ⟨o, I.kIn a o hk, hc, n, by simpa using hs⟩, ?_⟩
    have e := r.length
    simp only [Array.length_toList] at e
    omega
theorem Inv.list_inj (I : Inv X pins σ H s) (h : SqL X.K H a xs) (h' : SqL X.K H a ys) : xs = ys := by
  obtain ⟨its, r, ⟨o, n, e, _, _, d⟩, _⟩ := I.list h
  obtain ⟨its', r', ⟨o', n', e', _, _, d'⟩, _⟩ := I.list h'
  rw [e] at e'; cases e'
  rw [d] at d'
  injection d' with d1 _
  have : its = its' := by simpa using congrArg Array.toList d1
  subst this
  exact r.inj r'
theorem Inv.tuple_inj (I : Inv X pins σ H s) (h : SqT X.K H a xs) (h' : SqT X.K H a ys) : xs = ys := by
  obtain ⟨its, r, ⟨o, e, _, n, d⟩, _⟩ := I.tuple h
  obtain ⟨its', r', ⟨o', e', _, n', d'⟩, _⟩ := I.tuple h'
  rw [e] at e'; cases e'
  rw [d] at d'
  injection d' with d1 _
  have : its = its' := by simpa using congrArg Array.toList d1
  subst this
  exact r.inj r'
end

/-! ### another wish about exceptions -/
abbrev Cx.wish (X : Cx) (E : Value → Shared → Prop) : Cx := { X with xe := E }
/-- no exception leaves -/
abbrev Cx.nox (X : Cx) : Cx := X.wish fun _ _ => False
theorem Cx.Ok.wish {X : Cx} (ok : X.Ok) (E : Value → Shared → Prop) : (X.wish E).Ok :=
  ⟨ok.mod, ok.kind, ok.glob, ok.blt, ok.above, ok.inj, ok.has, ok.cab, ok.hd, ok.frames, ok.stk, ok.exf, ok.bs, ok.bsz, ok.noex, ok.exfs, ok.funs, ok.frf⟩
theorem Cx.Ok.unwish {X : Cx} {E : Value → Shared → Prop} (ok : (X.wish E).Ok) : X.Ok :=
  ⟨ok.mod, ok.kind, ok.glob, ok.blt, ok.above, ok.inj, ok.has, ok.cab, ok.hd, ok.frames, ok.stk, ok.exf, ok.bs, ok.bsz, ok.noex, ok.exfs, ok.funs, ok.frf⟩
section
variable {X : Cx} {pins : List (Addr × Obj)} {σ : St} {H : Hp} {s : Shared} {E : Value → Shared → Prop}
theorem Inv.wish (I : Inv X pins σ H s) (E : Value → Shared → Prop) : Inv (X.wish E) pins σ H s := ⟨I.ok.wish E, I.os, I.bare, I.base, I.loc, I.cell, I.free, I.freeC, I.pin, I.hok, I.len⟩
theorem Inv.unwish (I : Inv (X.wish E) pins σ H s) : Inv X pins σ H s := ⟨I.ok.unwish, I.os, I.bare, I.base, I.loc, I.cell, I.free, I.freeC, I.pin, I.hok, I.len⟩
theorem SP.unwish {D : Ends} {f : Flow} {s' : Shared} (h : SP (X.wish E) pins D f s') : SP X pins D f s' := by
  cases f with
  | next => obtain ⟨σ', H', I, q⟩ := h; exact ⟨σ', H', I.unwish, q⟩
  | brk => obtain ⟨σ', H', I, q⟩ := h; exact ⟨σ', H', I.unwish, q⟩
  | cont => obtain ⟨σ', H', I, q⟩ := h; exact ⟨σ', H', I.unwish, q⟩
  | ret u => obtain ⟨v, σ', H', I, r, q⟩ := h; exact ⟨v, σ', H', I.unwish, r, q⟩
theorem PE.nox {e : Expr} {t : TE} (h : PE X.nox e t) : PE X e t := fun pins s σ H Q I hw =>
  wpAny_mono (h pins s σ H Q (I.wish _) hw) (fun _ _ ⟨v, H', I', r, q⟩ => ⟨v, H', I'.unwish, r, q⟩) fun _ _ z => False.elim z
theorem PT.nox {e : Expr} {t : TT} (h : PT X.nox e t) : PT X e t := fun pins s σ H Q I hw =>
  wpAny_mono (h pins s σ H Q (I.wish _) hw) (fun _ _ ⟨H', I', q⟩ => ⟨H', I'.unwish, q⟩) fun _ _ z => False.elim z
theorem PSs.nox {st : List Stmt} {t : TS} (h : PSs X.nox st t) : PSs X st t := fun pins s σ H D I hw =>
  wpAny_mono (h pins s σ H D (I.wish _) hw) (fun _ _ q => q.unwish) fun _ _ z => False.elim z
end

/-! ### blocks and small statements -/
section
variable {X : Cx} {st : Stmt} {rest : List Stmt} {t u : TS} {e : Expr} {te : TE} {pos : Pos}
def tNext : TS := fun D σ H => D.nx σ H
def tSeq (t u : TS) : TS := fun D σ H => t { D with nx := u D } σ H
theorem pss_nil : PSs X [] tNext := fun _ _ σ H _ I h => wpAny_execs_nil ⟨σ, H, I, h⟩
theorem pss_cons (h1 : PS X st t) (h2 : PSs X rest u) : PSs X (st :: rest) (tSeq t u) := by
  intro pins s σ H D I h
  refine wpAny_execs_cons (thn (h1 pins s σ H { D with nx := u D } I h) fun f s1 q => ?_)
  cases f with
  | next =>
    obtain ⟨σ', H', I', q⟩ := q
    exact h2 pins s1 σ' H' D I' q
  | ret v => exact q
  | brk => exact q
  | cont => exact q
theorem pss_one (h1 : PS X st t) : PSs X [st] t := by
  intro pins s σ H D I h
  refine wpAny_execs_cons (thn (h1 pins s σ H D I h) fun f s1 q => ?_)
  cases f with
  | next => exact wpAny_execs_nil q
  | ret v => exact q
  | brk => exact q
  | cont => exact q
def tBreak : TS := fun D σ H => D.bk σ H
def tCont : TS := fun D σ H => D.ct σ H
theorem ps_pass : PS X (.Pass pos) tNext := fun _ _ σ H _ I h => wpAny_Pass ⟨σ, H, I, h⟩
theorem ps_break : PS X (.Break pos) tBreak := fun _ _ σ H _ I h => wpAny_Break ⟨σ, H, I, h⟩
theorem ps_continue : PS X (.Continue pos) tCont := fun _ _ σ H _ I h => wpAny_Continue ⟨σ, H, I, h⟩
/-- in a def's body nothing is shown -/
theorem Inv.quiet {pins : List (Addr × Obj)} {σ : St} {H : Hp} {s : Shared} (I : Inv X pins σ H s) : interactive X.env = false := by simp [interactive, I.ok.kind]
/-- a docstring -/
theorem ps_doc {x j pos pos'} : PS X (.Expr (.Constant (.str x) j pos) pos') tNext := fun _ s σ H _ I h => wpAny_Expr (Calls.Constant_str (show SP X _ _ .next { s with toks := s.toks + 1 } from ⟨σ, H, I.tok _, h⟩)) I.quiet
/-- an expression whose value is dropped -/
def tDrop (te : TE) : TS := fun D σ H => te σ H fun _ H1 => D.nx σ H1
theorem ps_expr (he : PE X e te) (hs : swapsWith e none pos.line X.env = pure false := by rfl) : PS X (.Expr e pos) (tDrop te) := by
  intro pins s σ H D I h
  exact wpAny_Expr_any (thn (he pins s σ H _ I h) fun v s1 ⟨x, H1, I1, r1, q1⟩ => ⟨σ, H1, I1, q1⟩) I.quiet hs
def tRet (te : TE) : TS := fun D σ H => te σ H D.rt
theorem ps_ret (he : PE X e te) : PS X (.Return (some e) pos) (tRet te) := by
  intro pins s σ H D I h
  exact wpAny_Return_some (thn (he pins s σ H _ I h) fun v s1 ⟨x, H1, I1, r1, q1⟩ => ⟨x, σ, H1, I1, r1, q1⟩)
def tRetN : TS := fun D _ H => D.rt .non H
theorem ps_retN : PS X (.Return none pos) tRetN := fun _ _ σ H _ I h => wpAny_Return_none ⟨.non, σ, H, I, rfl, h⟩
def tIfS (c : TT) (t u : TS) : TS := fun D σ H => c σ H fun b H1 => if b = true then t D σ H1 else u D σ H1
theorem ps_if {c : Expr} {a b : List Stmt} {tc : TT} (hc : PT X c tc) (ha : PSs X a t) (hb : PSs X b u) : PS X (.If c a b pos) (tIfS tc t u) := by
  intro pins s σ H D I h
  refine wpAny_If (thn (hc pins s σ H _ I h) fun d s1 ⟨H1, I1, q1⟩ => ?_)
  cases d with
  | true => exact ha pins s1 σ H1 D I1 q1
  | false => exact hb pins s1 σ H1 D I1 q1
/-- code that the proof never comes to -/
def tNever : TS := fun _ _ _ => False
theorem ps_never : PS X st tNever := fun _ _ _ _ _ _ h => h.elim
theorem pss_never {sts : List Stmt} : PSs X sts tNever := fun _ _ _ _ _ _ h => h.elim
end

/-! ### targets -/
abbrev TG := V → St → Hp → (St → Hp → Prop) → Prop
abbrev TGs := List V → St → Hp → (St → Hp → Prop) → Prop
def PG (X : Cx) (target : Expr) (t : TG) : Prop :=
  ∀ (pins : List (Addr × Obj)) (s : Shared) (σ : St) (H : Hp) (v : V) (u : Value) (Q : St → Hp → Prop), Inv X pins σ H s → RelV v u → t v σ H Q →
    wpAny (model X.prog X.w) X.A (assign target X.env u) (fun _ s' => ∃ σ' H', Inv X pins σ' H' s' ∧ Q σ' H') X.xe s
/-- several targets, one after another -/
def PGs (X : Cx) (ts : List Expr) (t : TGs) : Prop :=
  ∀ (pins : List (Addr × Obj)) (s : Shared) (σ : St) (H : Hp) (vs : List V) (us : List Value) (Q : St → Hp → Prop), Inv X pins σ H s → Vals vs us → t vs σ H Q →
    wpAny (model X.prog X.w) X.A (assignInOrder ((assignEach ts X.env).map (·.2)) us) (fun _ s' => ∃ σ' H', Inv X pins σ' H' s' ∧ Q σ' H') X.xe s
/-- o[i] = v, by values -/
abbrev TSet := V → V → V → Hp → (Hp → Prop) → Prop
def PSet (X : Cx) (t : TSet) : Prop :=
  ∀ (pins : List (Addr × Obj)) (s : Shared) (σ : St) (H : Hp) (o i v : V) (ov iv u : Value) (Q : Hp → Prop), Inv X pins σ H s → RelV o ov → RelV i iv → RelV v u → t o i v H Q →
    wpAny (model X.prog X.w) X.A (setItem ov iv u) (fun _ s' => ∃ H', Inv X pins σ H' s' ∧ Q H') X.xe s
/-- a op= b, by values -/
abbrev TIp := V → V → Hp → VK → Prop
def PIp (X : Cx) (op : Operator) (t : TIp) : Prop :=
  ∀ (pins : List (Addr × Obj)) (s : Shared) (σ : St) (H : Hp) (x y : V) (v u : Value) (Q : VK), Inv X pins σ H s → RelV x v → RelV y u → t x y H Q →
    wpAny (model X.prog X.w) X.A (inplaceOp op v u) (EP X pins σ Q) X.xe s
section
variable {X : Cx} {pos : Pos}
def gName (i : Nat) : TG := fun v σ H Q => Q (σ.set i (some v)) H
theorem pg_name {i : Nat} {x : Str} (hN : X.N.Nodup) (hi : X.N[i]? = some x) (hx : Loc X.env.scope x) (hf : X.fn x = true ∨ X.env.scope.names.lookup x = some .local := by first | exact .inl rfl | exact .inr rfl | assumption) : PG X (.Name x pos) (gName i) := by
  intro pins s σ H v u Q I r h
  exact wpAny_assign_Name (store_ok I hN hi hx r (fun s' I' => ⟨_, H, I', h⟩) hf)
def gNil : TGs := fun vs σ H Q => vs = [] ∧ Q σ H
def gCons (t : TG) (u : TGs) : TGs := fun vs σ H Q => ∃ v r, vs = v :: r ∧ t v σ H fun σ' H' => u r σ' H' Q
theorem pgs_nil : PGs X [] gNil := by
  intro pins s σ H vs us Q I r h
  obtain ⟨e, h⟩ := h
  subst e
  cases r
  exact assignInOrder_nil ⟨σ, H, I, h⟩
theorem pgs_cons {e : Expr} {es : List Expr} {t : TG} {u : TGs} (h1 : PG X e t) (h2 : PGs X es u)
    (hs : (assignEach (e :: es) X.env).map (·.2) = assign e X.env :: (assignEach es X.env).map (·.2) := by rfl) : PGs X (e :: es) (gCons t u) := by
  intro pins s σ H vs us Q I r h
  obtain ⟨v, vr, e1, h⟩ := h
  subst e1
  cases r with
  | cons r rr =>
    rw [hs]
    refine assignInOrder_cons (thn (h1 pins s σ H _ _ _ I r h) fun _ s1 ⟨σ1, H1, I1, q1⟩ => ?_)
    exact h2 pins s1 σ1 H1 _ _ Q I1 rr q1
/-- (a, b, ..) = a tuple of that length -/
def gTup (K : PySem.W.Frag) (n : Nat) (t : TGs) : TG := fun v σ H Q => ∃ a xs, v = .ref a ∧ SqT K H a xs ∧ xs.length = n ∧ t xs σ H Q
theorem pg_tup {es : List Expr} {k : Nat} {t : TGs} {n : Nat} (hc : X.calm = true) (h : PGs X es t)
    (hn : (assignEach es X.env).length = n := by rfl) (hst : (assignEach es X.env).findIdx? (·.1) = none := by rfl) : PG X (.Tuple es k pos) (gTup X.K n t) := by
  intro pins s σ H v u Q I r hw
  obtain ⟨a, xs, e1, hq, hl, hw⟩ := hw
  subst e1
  cases r
  obtain ⟨its, rv, ht, hz⟩ := I.tuple hq
  refine assign_Tuple_tuple (I.ok.hd hc) ht (by simp [hn, ← hl, rv.length]) hst fun h' hx => ?_
  have I1 : Inv X pins σ H { s with heap := h' } := I.kept (t' := s.toks) fun b o e => hx b o (Nat.ne_of_lt (Heap.lt_size e)) e
  exact h pins _ σ H xs _ Q I1 (by simpa using rv) hw
/-- o[i] = .. -/
def gSub (to ti : TE) (t : TSet) : TG := fun v σ H Q => to σ H fun o H1 => ti σ H1 fun i H2 => t o i v H2 fun H3 => Q σ H3
theorem pg_sub {o i : Expr} {to ti : TE} {t : TSet} (ho : PE X o to) (hi : PE X i ti) (hs : PSet X t)
    (ha : ∀ v, assign (.Subscript o i pos) X.env v = (do
      let ov ← holding [v] (eval o X.env)
      let iv ← holding [v, ov] (eval i X.env)
      standAt pos
      holding [v, ov, iv] (setItem ov iv v)
      release [v, ov, iv] []) := by intro _; rfl) : PG X (.Subscript o i pos) (gSub to ti t) := by
  intro pins s σ H v u Q I r h
  rw [ha]
  refine wpAny_bind (wpAny_holding (thn (ho pins s σ H _ I h) fun ov s1 ⟨x, H1, I1, r1, q1⟩ => ?_))
  refine wpAny_bind (wpAny_holding (thn (hi pins s1 σ H1 _ I1 q1) fun iv s2 ⟨y, H2, I2, r2, q2⟩ => ?_))
  refine wpAny_bind (wpAny_standAt (wpAny_bind (wpAny_holding (thn (hs pins s2 σ H2 x y v ov iv u _ I2 r1 r2 r q2) fun _ s3 ⟨H3, I3, q3⟩ => ?_))))
  exact wpAny_release ⟨σ, H3, I3, q3⟩
/-- target = value -/
def tAsg (te : TE) (g : TG) : TS := fun D σ H => te σ H fun x H1 => g x σ H1 D.nx
theorem ps_asg {tg e : Expr} {te : TE} {g : TG} (he : PE X e te) (hg : PG X tg g) (hs : swapsWithSole [tg] e pos.line X.env = pure false := by rfl) (hw : swappedStores [tg] e X.env = pure none := by rfl)
    (h1 : (assignEach [tg] X.env).map (·.2) = [assign tg X.env] := by rfl) : PS X (.Assign [tg] e pos) (tAsg te g) := by
  intro pins s σ H D I h
  refine wpAny_Assign_stores (thn (he pins s σ H _ I h) fun v s1 ⟨x, H1, I1, r1, q1⟩ => ?_) hs hw
  rw [h1]
  exact thn (hg pins s1 σ H1 x v _ I1 r1 q1) fun _ s2 q => q
/-- name = value -/
theorem ps_set {i : Nat} {x : Str} {e : Expr} {te : TE} {pos' : Pos} (hN : X.N.Nodup) (hi : X.N[i]? = some x) (hx : Loc X.env.scope x) (he : PE X e te) (hs : swapsWith e (some (.Name x pos')) pos.line X.env = pure false := by rfl) (hf : X.fn x = true ∨ X.env.scope.names.lookup x = some .local := by first | exact .inl rfl | exact .inr rfl | assumption) :
    PS X (.Assign [.Name x pos'] e pos) (tAsg te (gName i)) := by
  intro pins s σ H D I h
  refine wpAny_Assign_Name (thn (he pins s σ H _ I h) fun v s1 ⟨y, H1, I1, r1, q1⟩ => ?_) hs
  exact store_ok I1 hN hi hx r1 (fun s2 I2 => ⟨_, H1, I2, q1⟩) hf
/-- a, b = x, y with plain local names: stored from the right; the pair itself is not tracked (the opening rows as in PyProof/Rows/TupAssign.lean:23) -/
def tPar (i j : Nat) (ta : TA) : TS := fun D σ H => ta σ H fun vs H1 => ∃ v w, vs = [v, w] ∧ D.nx ((σ.set i (some v)).set j (some w)) H1
theorem ps_par {i j : Nat} {x y : Str} {a b : Expr} {ta : TA} {px py pt : Pos} {kt k2 pt2} (hc : X.calm = true) (hN : X.N.Nodup) (hi : X.N[i]? = some x) (hj : X.N[j]? = some y) (hij : i ≠ j)
    (hx : X.env.scope.names.lookup x = some .local) (hy : X.env.scope.names.lookup y = some .local) (ha : PA X [a, b] ta)
    (hw : swappedStores [.Tuple [.Name x px, .Name y py] kt pt] (.Tuple [a, b] k2 pt2) X.env = pure (some [x, y]))
    (hs : swapsWithSole [.Tuple [.Name x px, .Name y py] kt pt] (.Tuple [a, b] k2 pt2) pos.line X.env = pure false := by rfl) :
    PS X (.Assign [.Tuple [.Name x px, .Name y py] kt pt] (.Tuple [a, b] k2 pt2) pos) (tPar i j ta) := by
  intro pins s σ H D I h
  rw [exec_Assign_arm]
  refine wpAny_bind (wpAny_standAt ?_)
  rw [hs]
  refine wpAny_bind (wpAny_pure ?_)
  rw [if_neg (by decide)]
  refine wpAny_bind (Tuple_ (thn (ha _ pins s σ H _ I h) fun us s1 ⟨vs, H1, I1, r1, q1⟩ => ?_))
  obtain ⟨v, w, e1, q1⟩ := q1
  subst e1
  obtain ⟨u1, u2, rfl, rv, rw'⟩ : ∃ u1 u2, us = [u1, u2] ∧ RelV v u1 ∧ RelV w u2 := by
    cases r1 with
    | cons p q =>
      cases q with
      | cons p' q' =>
        cases q'
        exact ⟨_, _, rfl, p, p'⟩
  refine wpAny_newObj_type ?_ (by show 2 ≤ sizeLine; decide)
  have I2 : Inv X pins σ H1 { s1 with heap := s1.heap.push { cls := .type "tuple", data := .seq [u1, u2].toArray } } := I1.kept (t' := s1.toks) fun b o e => Heap.get?_push_of_some _ e
  rw [hw]
  refine wpAny_bind (wpAny_pure ?_)
  show wpAny (model X.prog X.w) X.A (do rule "assign.swapped-stores"; let items ← unpackItems (.ref s1.heap.objs.size) 2 none; assignInOrder [fun v => bindName X.env y v, fun v => bindName X.env x v] items.reverse; pure Flow.next) _ _ _
  refine wpAny_bind (wpAny_rule (wpAny_bind (unpackItems_tuple (items := #[u1, u2]) (I.ok.hd hc) (IsTup.new s1.heap _) fun h' hx' => ?_)))
  have I3 := I2.kept (h' := h') (t' := s1.toks) fun b o e => hx' b o (Nat.ne_of_lt (Heap.lt_size e)) e
  show wpAny _ _ (assignInOrder [fun v => bindName X.env y v, fun v => bindName X.env x v] [u2, u1] >>= fun _ => pure Flow.next) _ _ _
  refine wpAny_bind (assignInOrder_cons (wpAny_bindName (store_ok I3 hN hj (.inl hy) rw' (fun s2 I4 => ?_) (.inr hy))))
  refine assignInOrder_cons (wpAny_bindName (store_ok I4 hN hi (.inl hx) rv (fun s3 I5 => assignInOrder_nil (wpAny_pure ?_)) (.inr hx)))
  rw [List.set_comm _ _ (Ne.symm hij)] at I5
  exact ⟨_, H1, I5, q1⟩
/-- name op= e -/
def tAug (i : Nat) (te : TE) (ti : TIp) : TS := fun D σ H => ∃ x, σ[i]? = some (some x) ∧ te σ H fun y H1 => ti x y H1 fun z H2 => D.nx (σ.set i (some z)) H2
theorem ps_aug {i : Nat} {x : Str} {e : Expr} {te : TE} {op : Operator} {ti : TIp} {pos' : Pos} (hN : X.N.Nodup) (hi : X.N[i]? = some x) (hx : Loc X.env.scope x) (he : PE X e te) (ho : PIp X op ti) (hf : X.fn x = true ∨ X.env.scope.names.lookup x = some .local := by first | exact .inl rfl | exact .inr rfl | assumption) :
    PS X (.AugAssign (.Name x pos') op e pos) (tAug i te ti) := by
  intro pins s σ H D I h
  obtain ⟨v, e1, h⟩ := h
  obtain ⟨m, hn, hl⟩ := I.loc
  have vis : Vis X.env.scope x := by rcases hx with k | k; exact .inl k; exact .inr (.inl k)
  obtain ⟨u, r, l⟩ := hl i x v hi e1 vis
  refine wpAny_AugAssign_Name ?_
  have go : wpAny (model X.prog X.w) X.A (eval e X.env) (fun w s₂ => wpAny (model X.prog X.w) X.A (inplaceOp op u w) (fun r s₃ => wpAny (model X.prog X.w) X.A (storeName X.env x r) (fun _ => SP X pins D .next) X.xe s₃) X.xe s₂) X.xe s := by
    refine thn (he pins s σ H _ I h) fun w s1 ⟨y, H1, I1, r1, q1⟩ => ?_
    refine thn (ho pins s1 σ H1 v y u w _ I1 r r1 q1) fun z s2 ⟨zv, H2, I2, r2, q2⟩ => ?_
    exact store_ok I2 hN hi hx r2 (fun s3 I3 => ⟨_, H2, I3, q2⟩) hf
  rcases l with ⟨hk, hm⟩ | ⟨hk, c, hc, hcell⟩
  · exact wpAny_loadName_local I.ok.kind hk hn hm go
  · rcases hk with hk | hk
    · exact wpAny_loadName_cell I.ok.kind hk hc hcell go
    · rcases hx with k | k
      · have : X.env.scope.names.lookup x = some .free := hk
        rw [k] at this; cases this
      · have : X.env.scope.names.lookup x = some .free := hk
        rw [k] at this; cases this
/-- o[i] op= e -/
def tAugS (to ti te : TE) (tget : V → V → Hp → VK → Prop) (tip : TIp) (tset : TSet) : TS := fun D σ H => to σ H fun o H1 => ti σ H1 fun i H2 => tget o i H2 fun x H3 => te σ H3 fun y H4 => tip x y H4 fun z H5 => tset o i z H5 fun H6 => D.nx σ H6
/-- o[i], by values -/
def PGet (X : Cx) (t : V → V → Hp → VK → Prop) : Prop :=
  ∀ (pins : List (Addr × Obj)) (s : Shared) (σ : St) (H : Hp) (o i : V) (ov iv : Value) (Q : VK), Inv X pins σ H s → RelV o ov → RelV i iv → t o i H Q →
    wpAny (model X.prog X.w) X.A (getItem ov iv) (EP X pins σ Q) X.xe s
theorem ps_augS {o i e : Expr} {to ti te : TE} {tget : V → V → Hp → VK → Prop} {tip : TIp} {tset : TSet} {op : Operator} {tpos : Pos} (ho : PE X o to) (hi : PE X i ti) (hg : PGet X tget) (he : PE X e te) (hp : PIp X op tip) (hs : PSet X tset)
    (ha : ∀ ov iv new, augStore i ov iv new = (do holding [new, ov, iv] (setItem ov iv new); release [new, ov, iv] []; pure .next) := by intros; rfl) : PS X (.AugAssign (.Subscript o i tpos) op e pos) (tAugS to ti te tget tip tset) := by
  intro pins s σ H D I h
  refine wpAny_AugAssign_SubscriptAny (thn (ho pins s σ H _ I h) fun ov s1 ⟨x1, H1, I1, r1, q1⟩ => ?_) ha
  refine thn (hi pins s1 σ H1 _ I1 q1) fun iv s2 ⟨x2, H2, I2, r2, q2⟩ => ?_
  refine thn (hg pins s2 σ H2 x1 x2 ov iv _ I2 r1 r2 q2) fun old s3 ⟨x3, H3, I3, r3, q3⟩ => ?_
  refine thn (he pins s3 σ H3 _ I3 q3) fun v s4 ⟨x4, H4, I4, r4, q4⟩ => ?_
  refine thn (hp pins s4 σ H4 x3 x4 old v _ I4 r3 r4 q4) fun new s5 ⟨x5, H5, I5, r5, q5⟩ => ?_
  exact thn (hs pins s5 σ H5 x1 x2 x5 ov iv new _ I5 r1 r2 r5 q5) fun _ s6 ⟨H6, I6, q6⟩ => ⟨σ, H6, I6, q6⟩
/-- ints -/
def ipI (f : Int → Int → Int) : TIp := fun x y H Q => ∃ i j, x = .int i ∧ y = .int j ∧ Q (.int (f i j)) H
theorem ip_add : PIp X .Add (ipI fun i j => i + j) := by
  intro pins s σ H x y v u Q I r1 r2 h
  obtain ⟨i, j, e1, e2, q⟩ := h
  subst e1; subst e2
  obtain ⟨t, rfl⟩ := r1
  obtain ⟨t', rfl⟩ := r2
  exact iadd_int ⟨.int _, H, I.tok _, ⟨_, rfl⟩, q⟩
theorem ip_sub : PIp X .Sub (ipI fun i j => i - j) := by
  intro pins s σ H x y v u Q I r1 r2 h
  obtain ⟨i, j, e1, e2, q⟩ := h
  subst e1; subst e2
  obtain ⟨t, rfl⟩ := r1
  obtain ⟨t', rfl⟩ := r2
  exact isub_int ⟨.int _, H, I.tok _, ⟨_, rfl⟩, q⟩
end

/-! ### while -/
section
variable {X : Cx} {pos : Pos}
/-- the invariant W with its measure -/
def tWhile (c : TT) (tb : TS) : TS := fun D σ H => ∃ W : Nat → St → Hp → Prop, (∃ m, W m σ H) ∧ ∀ m σ H, W m σ H →
  c σ H fun b H1 => if b = true then ∃ N : St → Hp → Prop, (∀ σ' H', N σ' H' → ∃ m', m' < m ∧ W m' σ' H') ∧ tb { D with nx := N, ct := N, bk := D.nx } σ H1 else D.nx σ H1
theorem ps_while {c : Expr} {body : List Stmt} {tc : TT} {tb : TS} (hp : PassesOwn (model X.prog X.w) X.A X.env X.xe) (hc : PT X c tc) (hb : PSs X body tb) : PS X (.While c body [] pos) (tWhile tc tb) := by
  intro pins s σ H D I h
  obtain ⟨W, ⟨m0, w0⟩, turn⟩ := h
  refine wpAny_While (codeAny_whileLoop (fun n s' => ∃ σ' H', Inv X pins σ' H' s' ∧ W n σ' H') ?_ m0 ⟨σ, H, I, w0⟩)
  rintro n s1 ⟨σ1, H1, I1, w1⟩
  refine wpAny_passesOwn hp (thn (hc pins s1 σ1 H1 _ I1 (turn n σ1 H1 w1)) fun b s2 ⟨H2, I2, q2⟩ => ?_)
  cases b with
  | true =>
    obtain ⟨N, hN, q2⟩ := q2
    rw [if_pos rfl]
    refine wpAny_passesOwn hp (thn (hb pins s2 σ1 H2 _ I2 q2) fun f s3 q3 => ?_)
    cases f with
    | next =>
      obtain ⟨σ3, H3, I3, n3⟩ := q3
      obtain ⟨m', hm, w3⟩ := hN σ3 H3 n3
      exact ⟨m', hm, σ3, H3, I3, w3⟩
    | cont =>
      obtain ⟨σ3, H3, I3, n3⟩ := q3
      obtain ⟨m', hm, w3⟩ := hN σ3 H3 n3
      exact ⟨m', hm, σ3, H3, I3, w3⟩
    | brk => exact q3
    | ret v => exact q3
  | false =>
    rw [if_neg Bool.false_ne_true]
    exact wpAny_execs_nil ⟨σ1, H2, I2, q2⟩
end

/-! ### what a loop or a comprehension walks -/
/-- at turn i: it yields x (the heap may grow), or it stops -/
structure It where
  go : Nat → Hp → Prop
  yld : Nat → Hp → V → Hp → Prop
  stop : Nat → Hp → Prop
/-- the iterator's own objects may turn: they are not the frame's, not pinned, younger than the entry (or a comprehension's own) -/
def FpOk (X : Cx) (pins : List (Addr × Obj)) (H : Hp) (b : Addr) : Prop :=
  H b = none ∧ b ≠ X.env.locals ∧ b ∉ X.fs ∧ (b ∈ X.ex ∨ X.s₀.heap.objs.size ≤ b) ∧ (∀ x c, X.env.cells.lookup x = some c → c ≠ b) ∧ ∀ p ∈ X.pn ++ pins, p.1 ≠ b
theorem Inv.fpOk {X : Cx} {pins : List (Addr × Obj)} {σ : St} {H H' : Hp} {s : Shared} {b : Addr} (I : Inv X pins σ H s) (hb : s.heap.objs.size ≤ b) (hn : H' b = none) : FpOk X pins H' b := by
  refine ⟨hn, Nat.ne_of_gt (Nat.lt_of_lt_of_le I.lt hb), I.nofs hb, .inr (Nat.le_trans I.sz hb), fun x c e z => ?_, fun p hp z => ?_⟩
  · obtain ⟨v, q⟩ := I.cell x c e
    exact absurd (Nat.lt_of_lt_of_le q.lt (by rw [z]; exact hb)) (Nat.lt_irrefl _)
  · exact absurd (Nat.lt_of_lt_of_le (Heap.lt_size (I.pin p hp).1) (by rw [z]; exact hb)) (Nat.lt_irrefl _)
structure Turn (P : Program) (w : World) (K : PySem.W.Frag) (tg : Expr) (J : It) (fp : List Addr) (it : Addr) (tn : Nat → Heap → Prop) : Prop where
  mem : it ∈ fp
  obj : ∀ i h, tn i h → ∀ b ∈ fp, ∃ o, h.get? b = some o ∧ ∀ v, o.data ≠ .cell v
  keep : ∀ i h h', tn i h → (∀ b ∈ fp, ∀ o, h.get? b = some o → h'.get? b = some o) → tn i h'
  item : ∀ (X : Cx), X.prog = P → X.w = w → X.K = K → X.calm = true → ∀ (i : Nat) (pins : List (Addr × Obj)) (s : Shared) (σ : St) (H : Hp) (E : Value → Shared → Prop), Inv X pins σ H s → (∀ b ∈ fp, FpOk X pins H b) → tn i s.heap → J.go i H →
    wpAny (model P w) X.A (pyNext (.ref it)) (fun r s1 => ∃ u, r = some u ∧
      wpAny (model P w) X.A (letOwnedTupleGo tg (.ref it) u) (fun _ s2 => ∃ x H', Inv X pins σ H' s2 ∧ RelV x u ∧ J.yld i H x H' ∧ tn (i + 1) s2.heap ∧ ∀ b ∈ fp, H' b = none) E s1) E s
  done : ∀ (X : Cx), X.prog = P → X.w = w → X.K = K → X.calm = true → ∀ (i : Nat) (pins : List (Addr × Obj)) (s : Shared) (σ : St) (H : Hp) (E : Value → Shared → Prop), Inv X pins σ H s → (∀ b ∈ fp, FpOk X pins H b) → tn i s.heap → J.stop i H →
    wpAny (model P w) X.A (pyNext (.ref it)) (fun r s1 => r = none ∧ Inv X pins σ H s1) E s
  self : ∀ (A : Around) (i : Nat) (s : Shared) (Q : Value → Shared → Prop) (E : Value → Shared → Prop), tn i s.heap → Q (.ref it) s → wpAny (model P w) A (pyIter (.ref it)) Q E s
abbrev TI := St → Hp → (It → Hp → Prop) → Prop
/-- an iterator has come -/
def PIE (X : Cx) (pins : List (Addr × Obj)) (σ : St) (tg : Expr) (R : It → Hp → Prop) (itv : Value) (s2 : Shared) : Prop :=
  ∃ (it : Addr) (fp : List Addr) (tn : Nat → Heap → Prop) (J : It) (H' : Hp), itv = .ref it ∧ Inv X pins σ H' s2 ∧ Turn X.prog X.w X.K tg J fp it tn ∧ tn 0 s2.heap ∧ (∀ b ∈ fp, FpOk X pins H' b) ∧ R J H'
def PI (X : Cx) (tg iter : Expr) (wi : TI) : Prop :=
  ∀ (pins : List (Addr × Obj)) (s : Shared) (σ : St) (H : Hp) (R : It → Hp → Prop), Inv X pins σ H s → wi σ H R →
    wpAny (model X.prog X.w) X.A (eval iter X.env) (fun v s1 => wpAny (model X.prog X.w) X.A (pyIter v) (PIE X pins σ tg R) X.xe s1) X.xe s

/-- the step ahead of the store is nothing for an iterator that keeps no tuple -/
theorem go_of {M : Model} {A : Around} {E : Value → Shared → Prop} {s : Shared} {tg : Expr} {it : Addr} {u : Value} {o : Obj} {n : String} {vs : Array Value} {Q : Unit → Shared → Prop} (ho : s.heap.get? it = some o) (hc : o.cls = .type n) (hd : o.data = .fields vs)
    (hn : ["enumerate", "zip", "dict_itemiterator", "dict_reverseitemiterator", "odict_iterator", "itertools.zip_longest", "itertools.pairwise"].contains n = false) (hQ : Q () s) : wpAny M A (letOwnedTupleGo tg (.ref it) u) Q E s := by
  unfold letOwnedTupleGo
  cases tg <;> first
    | exact wpAny_pure hQ
    | (cases u <;> first
        | exact wpAny_pure hQ
        | (refine wpAny_bind (wpAny_load ho ?_)
           rw [hc, hd]
           show wpAny M A (if (["enumerate", "zip", "dict_itemiterator", "dict_reverseitemiterator", "odict_iterator", "itertools.zip_longest", "itertools.pairwise"].contains n && vs[0]? == some (rawInt _)) = true then _ else _) Q E s
           rw [if_neg (by intro h; rw [hn, Bool.false_and] at h; cases h)]
           exact wpAny_pure hQ))

/-- the list at a, as it stands at each turn (a loop may append to it) -/
def Itl (K : PySem.W.Frag) (a : Addr) : It :=
  ⟨fun i H => ∃ xs x, SqL K H a xs ∧ xs[i]? = some x, fun i H x H' => H' = H ∧ ∀ xs, SqL K H a xs → xs[i]? = some x, fun i H => ∃ xs, SqL K H a xs ∧ xs.length ≤ i⟩
def Itt (K : PySem.W.Frag) (a : Addr) : It :=
  ⟨fun i H => ∃ xs x, SqT K H a xs ∧ xs[i]? = some x, fun i H x H' => H' = H ∧ ∀ xs, SqT K H a xs → xs[i]? = some x, fun i H => ∃ xs, SqT K H a xs ∧ xs.length ≤ i⟩
/-- lo, lo + 1, .. (n of them) -/
def Itr (lo : Int) (n : Nat) : It := ⟨fun i _ => i < n, fun i H x H' => H' = H ∧ x = .int (lo + i), fun i _ => n ≤ i⟩
theorem turn_list {P : Program} {w : World} {K : PySem.W.Frag} {tg : Expr} (a it : Addr) : Turn P w K tg (Itl K a) [it] it (fun i h => h.IsListIter it a i) where
  mem := by simp
  obj := fun i h st b hb => by
    have e : b = it := by simpa using hb
    subst e
    obtain ⟨o, e, c, d⟩ := st
    exact ⟨o, e, fun v z => by rw [d] at z; cases z⟩
  keep := fun i h h' st k => st.at fun o e => k it (by simp) o e
  item := by
    intro X hP hw hK hc i pins s σ H E I hf st hg
    subst hP hw hK
    obtain ⟨xs, x, hq, hx⟩ := hg
    obtain ⟨its, rv, p, hz⟩ := I.list hq
    obtain ⟨u, hu, ru⟩ := rv.get hx
    obtain ⟨f0, f1, f2, f3, f4, f5⟩ := hf it (by simp)
    refine wpAny_pyNext_list_item st p.isList (x := u) (by simpa using hu) fun h' st' sb => ?_
    have I1 : Inv X pins σ H { s with heap := h' } := I.turned (t' := s.toks) (fun b o hb e => (sb.2 b hb).trans e) f0 f1 f3 f4 f5
    obtain ⟨o, e, c, d⟩ := id st'
    exact ⟨u, rfl, go_of (s := { s with heap := h' }) e c d (by decide) ⟨x, H, I1, ru, ⟨rfl, fun ys hy => by rw [I.list_inj hy hq]; exact hx⟩, st', fun b hb => (hf b hb).1⟩⟩
  done := by
    intro X hP hw hK hc i pins s σ H E I hf st hg
    subst hP hw hK
    obtain ⟨xs, hq, hx⟩ := hg
    obtain ⟨its, rv, p, hz⟩ := I.list hq
    obtain ⟨f0, f1, f2, f3, f4, f5⟩ := hf it (by simp)
    have hl := rv.length
    exact wpAny_pyNext_list_end (I.ok.hd hc) st p.isList (by simp; omega) fun h' eb => ⟨rfl, I.turned (t' := s.toks) (fun b o hb e => eb b o hb e) f0 f1 f3 f4 f5⟩
  self := fun _ _ _ _ _ st h => wpAny_pyIter_listiter st h
theorem turn_tuple {P : Program} {w : World} {K : PySem.W.Frag} {tg : Expr} (a it : Addr) : Turn P w K tg (Itt K a) [it] it (fun i h => h.IsTupleIter it a i) where
  mem := by simp
  obj := fun i h st b hb => by
    have e : b = it := by simpa using hb
    subst e
    obtain ⟨o, e, c, d⟩ := st
    exact ⟨o, e, fun v z => by rw [d] at z; cases z⟩
  keep := fun i h h' st k => st.at fun o e => k it (by simp) o e
  item := by
    intro X hP hw hK hc i pins s σ H E I hf st hg
    subst hP hw hK
    obtain ⟨xs, x, hq, hx⟩ := hg
    obtain ⟨its, rv, p, hz⟩ := I.tuple hq
    obtain ⟨u, hu, ru⟩ := rv.get hx
    obtain ⟨f0, f1, f2, f3, f4, f5⟩ := hf it (by simp)
    refine wpAny_pyNext_tuple_item st (show s.heap.IsTuple a its.toArray from p) (x := u) (by simpa using hu) fun h' st' sb => ?_
    have I1 : Inv X pins σ H { s with heap := h' } := I.turned (t' := s.toks) (fun b o hb e => (sb.2 b hb).trans e) f0 f1 f3 f4 f5
    obtain ⟨o, e, c, d⟩ := id st'
    exact ⟨u, rfl, go_of (s := { s with heap := h' }) e c d (by decide) ⟨x, H, I1, ru, ⟨rfl, fun ys hy => by rw [I.tuple_inj hy hq]; exact hx⟩, st', fun b hb => (hf b hb).1⟩⟩
  done := by
    intro X hP hw hK hc i pins s σ H E I hf st hg
    subst hP hw hK
    obtain ⟨xs, hq, hx⟩ := hg
    obtain ⟨its, rv, p, hz⟩ := I.tuple hq
    obtain ⟨f0, f1, f2, f3, f4, f5⟩ := hf it (by simp)
    have hl := rv.length
    exact wpAny_pyNext_tuple_end (I.ok.hd hc) st (show s.heap.IsTuple a its.toArray from p) (by simp; omega) fun h' eb => ⟨rfl, I.turned (t' := s.toks) (fun b o hb e => eb b o hb e) f0 f1 f3 f4 f5⟩
  self := fun _ _ _ _ _ st h => wpAny_pyIter_tupleiter st h
theorem turn_range {P : Program} {w : World} {K : PySem.W.Frag} {tg : Expr} (it : Addr) (lo : Int) (n : Nat) : Turn P w K tg (Itr lo n) [it] it (fun i h => IsRangeIter h it (lo + (i : Nat) * 1) ((n : Int) - (i : Nat)) 1) where
  mem := by simp
  obj := fun i h st b hb => by
    have e : b = it := by simpa using hb
    subst e
    exact ⟨_, st, fun v z => by
      have z' : Data.fields _ = Data.cell v := z
      cases z'⟩
  keep := fun i h h' st k => k it (by simp) _ st
  item := by
    intro X hP hw hK hc i pins s σ H E I hf st hg
    subst hP hw hK
    obtain ⟨f0, f1, f2, f3, f4, f5⟩ := hf it (by simp)
    have W := Walks.range (prog := X.prog) (w := X.w) (I.ok.hd hc) it lo 1 n
    refine W.item i s _ _ hg st fun v h' tk hv st' kk => ?_
    obtain ⟨t, rfl⟩ := hv
    have I1 : Inv X pins σ H { s with heap := h', toks := tk } := I.turned (fun b o hb e => kk b o (by simpa using hb) e) f0 f1 f3 f4 f5
    refine ⟨_, rfl, go_of (s := { s with heap := h', toks := tk }) (n := "range_iterator") st' rfl rfl (by decide) ⟨.int (lo + i), H, I1, ⟨t, ?_⟩, ⟨rfl, rfl⟩, st', fun b hb => (hf b hb).1⟩⟩
    rw [Int.mul_one]
  done := by
    intro X hP hw hK hc i pins s σ H E I hf st hg
    subst hP hw hK
    obtain ⟨f0, f1, f2, f3, f4, f5⟩ := hf it (by simp)
    exact wpAny_pyNext_range_end (I.ok.hd hc) st (by have : n ≤ i := hg; omega) fun h' eb => ⟨rfl, I.turned (t' := s.toks) (fun b o hb e => eb b o hb e) f0 f1 f3 f4 f5⟩
  self := fun _ _ _ _ _ st h => wpAny_pyIter_rangeiter st h
end L2

namespace L2
open PySem PySem.Spec PyProof.Rows
section
variable {X : Cx} {tg : Expr}
def iList (K : PySem.W.Frag) (tl : TE) : TI := fun σ H R => tl σ H fun x H1 => ∃ a, x = .ref a ∧ (∃ xs, SqL K H1 a xs) ∧ R (Itl K a) H1
def iTup (K : PySem.W.Frag) (tl : TE) : TI := fun σ H R => tl σ H fun x H1 => ∃ a, x = .ref a ∧ (∃ xs, SqT K H1 a xs) ∧ R (Itt K a) H1
theorem pi_list {l : Expr} {tl : TE} (hl : PE X l tl) : PI X tg l (iList X.K tl) := by
  intro pins s σ H R I h
  refine thn (hl pins s σ H _ I h) fun v s1 ⟨x, H1, I1, r1, q1⟩ => ?_
  obtain ⟨a, e, ⟨xs, hq⟩, q⟩ := q1
  subst e
  cases r1
  obtain ⟨its, rv, p, hz⟩ := I1.list hq
  refine wpAny_pyIter_list p.isList ?_
  refine ⟨s1.heap.objs.size, [s1.heap.objs.size], _, _, H1, rfl, I1.kept (t' := s1.toks) fun b o e => Heap.get?_push_of_some _ e, turn_list a _, ⟨_, Heap.get?_push_size _ rfl, rfl, rfl⟩, fun b hb => ?_, q⟩
  have e : b = s1.heap.objs.size := by simpa using hb
  subst e
  exact I1.fpOk (Nat.le_refl _) (I1.hok.fresh (Nat.le_refl _))
theorem pi_tup {l : Expr} {tl : TE} (hl : PE X l tl) : PI X tg l (iTup X.K tl) := by
  intro pins s σ H R I h
  refine thn (hl pins s σ H _ I h) fun v s1 ⟨x, H1, I1, r1, q1⟩ => ?_
  obtain ⟨a, e, ⟨xs, hq⟩, q⟩ := q1
  subst e
  cases r1
  obtain ⟨its, rv, p, hz⟩ := I1.tuple hq
  refine wpAny_pyIter_tuple (show s1.heap.IsTuple a its.toArray from p) ?_
  refine ⟨s1.heap.objs.size, [s1.heap.objs.size], _, _, H1, rfl, I1.kept (t' := s1.toks) fun b o e => Heap.get?_push_of_some _ e, turn_tuple a _, ⟨_, Heap.get?_push_size _ rfl, rfl, rfl⟩, fun b hb => ?_, q⟩
  have e : b = s1.heap.objs.size := by simpa using hb
  subst e
  exact I1.fpOk (Nat.le_refl _) (I1.hok.fresh (Nat.le_refl _))
/-- a range object just made, walked -/
theorem range_it {pins : List (Addr × Obj)} {σ : St} {H : Hp} {s : Shared} {R : It → Hp → Prop} {E : Value → Shared → Prop} {lo hi : Int} {t u v : Tok} {tk : Nat} (I : Inv X pins σ H s) (h1 : -(2 ^ 62) ≤ lo) (h2 : lo < 2 ^ 62) (h3 : -(2 ^ 62) ≤ hi) (h4 : hi < 2 ^ 62)
    (q : R (Itr lo (hi - lo).toNat) H) : wpAny (model X.prog X.w) X.A (pyIter (.ref s.heap.objs.size)) (PIE X pins σ tg R) E { s with heap := s.heap.push { cls := .type "range", data := .fields #[.int lo t, .int hi u, .int 1 v] }, toks := tk } := by
  refine wpAny_pyIter_range (IsRange.new ..) (small_one h1 h2 h3 h4) ?_
  have I1 : Inv X pins σ H { s with heap := s.heap.push { cls := .type "range", data := .fields #[.int lo t, .int hi u, .int 1 v] }, toks := tk } := I.kept fun b o e => Heap.get?_push_of_some _ e
  refine ⟨(s.heap.push { cls := .type "range", data := .fields #[.int lo t, .int hi u, .int 1 v] }).objs.size, [(s.heap.push { cls := .type "range", data := .fields #[.int lo t, .int hi u, .int 1 v] }).objs.size], _, _, H, rfl,
    I1.kept (t' := tk) fun b o e => Heap.get?_push_of_some _ e, turn_range _ lo (hi - lo).toNat, ?_, fun b hb => ?_, q⟩
  · have e1 : lo + ((0 : Nat) : Int) * 1 = lo := by simp
    have e2 : (((hi - lo).toNat : Nat) : Int) - ((0 : Nat) : Int) = Builtin.Range.rangeSize lo hi 1 := by rw [rangeSize_one]; split <;> omega
    show IsRangeIter _ _ (lo + ((0 : Nat) : Int) * 1) ((((hi - lo).toNat : Nat) : Int) - ((0 : Nat) : Int)) 1
    rw [e1, e2]
    exact Heap.get?_push_size _ rfl
  · have e : b = (s.heap.push { cls := .type "range", data := .fields #[.int lo t, .int hi u, .int 1 v] }).objs.size := by simpa using hb
    subst e
    exact I1.fpOk (Nat.le_refl _) (I1.hok.fresh (Nat.le_refl _))
def iRng1 (ta : TA) : TI := fun σ H R => ta σ H fun vs H1 => ∃ j : Int, vs = [.int j] ∧ -(2 ^ 62) ≤ j ∧ j < 2 ^ 62 ∧ R (Itr 0 j.toNat) H1
def iRng2 (ta : TA) : TI := fun σ H R => ta σ H fun vs H1 => ∃ i j : Int, vs = [.int i, .int j] ∧ (-(2 ^ 62) ≤ i ∧ i < 2 ^ 62 ∧ -(2 ^ 62) ≤ j ∧ j < 2 ^ 62) ∧ R (Itr i (j - i).toNat) H1
theorem pi_range1 {a : Expr} {ta : TA} {p pos : Pos} (hg : Gl X "range") (hm : X.mg "range" = none) (ha : PA X [a] ta) (hs : starEach [a] X.env = [(false, eval a X.env)] := by rfl) : PI X tg (.Call (.Name "range" p) [a] [] pos) (iRng1 ta) := by
  intro pins s σ H R I h
  refine Call_ (ld_blt I hg hm boot_range (PyProof.Rows.callWith_type1 (thn (ha pos pins s σ H _ I h) fun us s1 ⟨vs, H1, I1, r1, q1⟩ => ?_) hs rfl))
  obtain ⟨j, e, q1, q2, q⟩ := q1
  subst e
  cases r1 with
  | cons r rr =>
    cases rr
    obtain ⟨t, rfl⟩ := r
    exact call_range_1 (range_it I1 (by omega) (by omega) q1 q2 (by simpa using q))
theorem pi_range2 {a b : Expr} {ta : TA} {p pos : Pos} (hg : Gl X "range") (hm : X.mg "range" = none) (ha : PA X [a, b] ta) (hs : starEach [a, b] X.env = [(false, eval a X.env), (false, eval b X.env)] := by rfl) (hs2 : starEach [b] X.env = [(false, eval b X.env)] := by rfl) :
    PI X tg (.Call (.Name "range" p) [a, b] [] pos) (iRng2 ta) := by
  intro pins s σ H R I h
  refine Call_ (ld_blt I hg hm boot_range (PyProof.Rows.callWith_type1 (thn (ha pos pins s σ H _ I h) fun us s1 ⟨vs, H1, I1, r1, q1⟩ => ?_) (by rw [hs, hs2]) (by rw [hs2]; rfl)))
  obtain ⟨i, j, e, ⟨q1, q2, q3, q4⟩, q⟩ := q1
  subst e
  cases r1 with
  | cons r rr =>
    cases rr with
    | cons r' rr =>
      cases rr
      obtain ⟨t, rfl⟩ := r
      obtain ⟨t', rfl⟩ := r'
      exact call_range_2 (range_it I1 q1 q2 q3 q4 q)

/-! ### for -/
/-- W: the invariant by the turn and a measure; N: what the body is to reach -/
def tFor (wi : TI) (g : TG) (tb : TS) : TS := fun D σ H => wi σ H fun J H1 => ∃ W : Nat → Nat → St → Hp → Prop, (∃ m, W 0 m σ H1) ∧ ∀ i m σ H, W i m σ H →
  (J.stop i H ∧ D.nx σ H) ∨ (J.go i H ∧ ∃ N : St → Hp → Prop, (∀ σ' H', N σ' H' → ∃ m', m' < m ∧ W (i + 1) m' σ' H') ∧ ∀ x H', J.yld i H x H' → g x σ H' fun σ2 H2 => tb { D with nx := N, ct := N, bk := D.nx } σ2 H2)
/-- the records at fp as they stand -/
def pinsAt (fp : List Addr) (h : Heap) : List (Addr × Obj) := fp.filterMap fun b => (h.get? b).map fun o => (b, o)
theorem mem_pinsAt {fp : List Addr} {h : Heap} {b : Addr} {o : Obj} (hb : b ∈ fp) (e : h.get? b = some o) : (b, o) ∈ pinsAt fp h := List.mem_filterMap.mpr ⟨b, hb, by rw [e]; rfl⟩
theorem of_pinsAt {fp : List Addr} {h : Heap} {p : Addr × Obj} (hp : p ∈ pinsAt fp h) : p.1 ∈ fp ∧ h.get? p.1 = some p.2 := by
  obtain ⟨b, hb, e⟩ := List.mem_filterMap.mp hp
  cases q : h.get? b with
  | none => rw [q] at e; cases e
  | some o =>
    rw [q] at e
    have e' : (b, o) = p := Option.some.inj e
    subst e'
    exact ⟨hb, q⟩
theorem Inv.pinned {pins : List (Addr × Obj)} {σ : St} {H : Hp} {s : Shared} {fp : List Addr} (I : Inv X pins σ H s) (hf : ∀ b ∈ fp, FpOk X pins H b) (ho : ∀ b ∈ fp, ∃ o, s.heap.get? b = some o ∧ ∀ v, o.data ≠ .cell v) : Inv X (pins ++ pinsAt fp s.heap) σ H s :=
  I.pins_of fun p hp => (List.mem_append.mp hp).elim (fun z => I.pin p (List.mem_append_right _ z)) fun z => by
    obtain ⟨hb, e⟩ := of_pinsAt z
    obtain ⟨f0, f1, f2, _⟩ := hf p.1 hb
    obtain ⟨o, e', d⟩ := ho p.1 hb
    rw [e] at e'; cases e'
    exact ⟨e, f0, f1, f2, d⟩
theorem Inv.unpinned {pins pl : List (Addr × Obj)} {σ : St} {H : Hp} {s : Shared} (I : Inv X (pins ++ pl) σ H s) : Inv X pins σ H s := I.pins_of fun p hp => I.pin p (List.mem_append_right _ (List.mem_append_left _ hp))
theorem ps_for {iter : Expr} {body : List Stmt} {wi : TI} {g : TG} {tb : TS} {pos : Pos} (hp : PassesOwn (model X.prog X.w) X.A X.env X.xe) (hc : X.calm = true) (hi : PI X tg iter wi) (hg : PG X tg g) (hb : PSs X body tb)
    (hs : ∀ x, foldedSetIterable iter X.env x = pure x := by intro _; rfl) : PS X (.For tg iter body [] pos) (tFor wi g tb) := by
  intro pins s σ H D I h
  refine wpAny_For (thn (hi pins s σ H _ I h) fun v s1 h1 => thn h1 fun itv s2 h2 => ?_) hs
  obtain ⟨it, fp, tn, J, H2, e, I2, T, st2, f2, W, ⟨m0, w0⟩, turn⟩ := h2
  subst e
  -- what stays true of the iterator's objects through the loop
  have stat : ∀ {H' : Hp}, (∀ b ∈ fp, H' b = none) → ∀ b ∈ fp, FpOk X pins H' b := fun hn b hb => ⟨hn b hb, (f2 b hb).2⟩
  refine codeAny_forLoop_any (fun n s' => ∃ i σ' H', Inv X pins σ' H' s' ∧ tn i s'.heap ∧ (∀ b ∈ fp, H' b = none) ∧ W i n σ' H') ?_ m0 ⟨0, σ, H2, I2, st2, fun b hb => (f2 b hb).1, w0⟩
  rintro n s3 ⟨i, σ3, H3, I3, st3, fr3, w3⟩
  rcases turn i n σ3 H3 w3 with ⟨stop, qn⟩ | ⟨go, N, hN, step⟩
  · refine wpAny_passesOwn hp (thn (T.done X rfl rfl rfl hc i pins s3 σ3 H3 X.xe I3 (stat fr3) st3 stop) fun r s4 ⟨hr, I4⟩ => ?_)
    subst hr
    exact wpAny_execs_nil ⟨σ3, H3, I4, qn⟩
  · refine wpAny_passesOwn hp (thn (T.item X rfl rfl rfl hc i pins s3 σ3 H3 X.xe I3 (stat fr3) st3 go) fun r s4 ⟨u, hr, h4⟩ => ?_)
    subst hr
    refine wpAny_passesOwn hp (thn h4 fun _ s5 ⟨x, H5, I5, r5, y5, st5, fr5⟩ => ?_)
    have I5' := I5.pinned (stat fr5) (T.obj _ _ st5)
    refine wpAny_passesOwn hp (thn (hg _ s5 σ3 H5 x u _ I5' r5 (step x H5 y5)) fun _ s6 ⟨σ6, H6, I6, q6⟩ => ?_)
    refine wpAny_passesOwn hp (thn (hb _ s6 σ6 H6 _ I6 q6) fun f s7 q7 => ?_)
    have again : ∀ {σ7 : St} {H7 : Hp}, Inv X (pins ++ pinsAt fp s5.heap) σ7 H7 s7 → N σ7 H7 → ∃ m, m < n ∧ ∃ i σ' H', Inv X pins σ' H' s7 ∧ tn i s7.heap ∧ (∀ b ∈ fp, H' b = none) ∧ W i m σ' H' := fun {σ7 H7} I7 n7 => by
      obtain ⟨m', hm, w7⟩ := hN σ7 H7 n7
      refine ⟨m', hm, i + 1, σ7, H7, I7.unpinned, T.keep _ _ _ st5 fun b hb o e => (I7.pin (b, o) (List.mem_append_right _ (List.mem_append_right _ (mem_pinsAt hb e)))).1, fun b hb => ?_, w7⟩
      obtain ⟨o, e, d⟩ := T.obj _ _ st5 b hb
      exact (I7.pin (b, o) (List.mem_append_right _ (List.mem_append_right _ (mem_pinsAt hb e)))).2.1
    cases f with
    | next => obtain ⟨σ7, H7, I7, n7⟩ := q7; exact again I7 n7
    | cont => obtain ⟨σ7, H7, I7, n7⟩ := q7; exact again I7 n7
    | brk => obtain ⟨σ7, H7, I7, q7⟩ := q7; exact ⟨σ7, H7, I7.unpinned, q7⟩
    | ret v => obtain ⟨x7, σ7, H7, I7, r7, q7⟩ := q7; exact ⟨x7, σ7, H7, I7.unpinned, r7, q7⟩
end

/-! ### the forms one uses -/
/-- over a list that the body leaves as it is -/
theorem for_list {K : PySem.W.Frag} {a : Addr} {xs : List V} {g : TG} {tb : TS} {D : Ends} {σ : St} {H : Hp} (Pv : Nat → St → Hp → Prop) (h0 : Pv 0 σ H) (hl : ∀ i σ H, i ≤ xs.length → Pv i σ H → SqL K H a xs)
    (hs : ∀ i x σ H, xs[i]? = some x → Pv i σ H → g x σ H fun σ2 H2 => tb { D with nx := Pv (i + 1), ct := Pv (i + 1), bk := D.nx } σ2 H2) (hd : ∀ σ H, Pv xs.length σ H → D.nx σ H) :
    ∃ W : Nat → Nat → St → Hp → Prop, (∃ m, W 0 m σ H) ∧ ∀ i m σ H, W i m σ H →
      ((Itl K a).stop i H ∧ D.nx σ H) ∨ ((Itl K a).go i H ∧ ∃ N : St → Hp → Prop, (∀ σ' H', N σ' H' → ∃ m', m' < m ∧ W (i + 1) m' σ' H') ∧ ∀ x H', (Itl K a).yld i H x H' → g x σ H' fun σ2 H2 => tb { D with nx := N, ct := N, bk := D.nx } σ2 H2) := by
  refine ⟨fun i m σ H => m = xs.length - i ∧ i ≤ xs.length ∧ Pv i σ H, ⟨xs.length, by simp, Nat.zero_le _, h0⟩, ?_⟩
  rintro i m σ H ⟨rfl, hi, p⟩
  have q := hl i σ H hi p
  by_cases hlt : i < xs.length
  · refine .inr ⟨⟨xs, xs[i], q, by simp [hlt]⟩, Pv (i + 1), fun σ' H' p' => ⟨xs.length - (i + 1), by omega, rfl, hlt, p'⟩, fun x H' y => ?_⟩
    obtain ⟨e, y⟩ := y
    subst e
    exact hs i x σ _ (y xs q) p
  · have e : i = xs.length := by omega
    subst e
    exact .inl ⟨⟨xs, q, Nat.le_refl _⟩, hd σ H p⟩
theorem for_tup {K : PySem.W.Frag} {a : Addr} {xs : List V} {g : TG} {tb : TS} {D : Ends} {σ : St} {H : Hp} (Pv : Nat → St → Hp → Prop) (h0 : Pv 0 σ H) (hl : ∀ i σ H, i ≤ xs.length → Pv i σ H → SqT K H a xs)
    (hs : ∀ i x σ H, xs[i]? = some x → Pv i σ H → g x σ H fun σ2 H2 => tb { D with nx := Pv (i + 1), ct := Pv (i + 1), bk := D.nx } σ2 H2) (hd : ∀ σ H, Pv xs.length σ H → D.nx σ H) :
    ∃ W : Nat → Nat → St → Hp → Prop, (∃ m, W 0 m σ H) ∧ ∀ i m σ H, W i m σ H →
      ((Itt K a).stop i H ∧ D.nx σ H) ∨ ((Itt K a).go i H ∧ ∃ N : St → Hp → Prop, (∀ σ' H', N σ' H' → ∃ m', m' < m ∧ W (i + 1) m' σ' H') ∧ ∀ x H', (Itt K a).yld i H x H' → g x σ H' fun σ2 H2 => tb { D with nx := N, ct := N, bk := D.nx } σ2 H2) := by
  refine ⟨fun i m σ H => m = xs.length - i ∧ i ≤ xs.length ∧ Pv i σ H, ⟨xs.length, by simp, Nat.zero_le _, h0⟩, ?_⟩
  rintro i m σ H ⟨rfl, hi, p⟩
  have q := hl i σ H hi p
  by_cases hlt : i < xs.length
  · refine .inr ⟨⟨xs, xs[i], q, by simp [hlt]⟩, Pv (i + 1), fun σ' H' p' => ⟨xs.length - (i + 1), by omega, rfl, hlt, p'⟩, fun x H' y => ?_⟩
    obtain ⟨e, y⟩ := y
    subst e
    exact hs i x σ _ (y xs q) p
  · have e : i = xs.length := by omega
    subst e
    exact .inl ⟨⟨xs, q, Nat.le_refl _⟩, hd σ H p⟩
theorem for_range {lo : Int} {n : Nat} {g : TG} {tb : TS} {D : Ends} {σ : St} {H : Hp} (Pv : Nat → St → Hp → Prop) (h0 : Pv 0 σ H)
    (hs : ∀ i σ H, i < n → Pv i σ H → g (.int (lo + i)) σ H fun σ2 H2 => tb { D with nx := Pv (i + 1), ct := Pv (i + 1), bk := D.nx } σ2 H2) (hd : ∀ σ H, Pv n σ H → D.nx σ H) :
    ∃ W : Nat → Nat → St → Hp → Prop, (∃ m, W 0 m σ H) ∧ ∀ i m σ H, W i m σ H →
      ((Itr lo n).stop i H ∧ D.nx σ H) ∨ ((Itr lo n).go i H ∧ ∃ N : St → Hp → Prop, (∀ σ' H', N σ' H' → ∃ m', m' < m ∧ W (i + 1) m' σ' H') ∧ ∀ x H', (Itr lo n).yld i H x H' → g x σ H' fun σ2 H2 => tb { D with nx := N, ct := N, bk := D.nx } σ2 H2) := by
  refine ⟨fun i m σ H => m = n - i ∧ i ≤ n ∧ Pv i σ H, ⟨n, by simp, Nat.zero_le _, h0⟩, ?_⟩
  rintro i m σ H ⟨rfl, hi, p⟩
  by_cases hlt : i < n
  · refine .inr ⟨hlt, Pv (i + 1), fun σ' H' p' => ⟨n - (i + 1), by omega, rfl, hlt, p'⟩, fun x H' y => ?_⟩
    obtain ⟨e, y⟩ := y
    subst e y
    exact hs i σ _ hlt p
  · have e : i = n := by omega
    subst e
    exact .inl ⟨Nat.le_refl _, hd σ H p⟩
/-- while, by a word and a measure of the state -/
theorem while_by {c : TT} {tb : TS} {D : Ends} {σ : St} {H : Hp} (Pv : St → Hp → Prop) (μ : St → Hp → Nat) (h0 : Pv σ H)
    (hs : ∀ σ H, Pv σ H → c σ H fun b H1 => if b = true then tb { D with nx := fun σ' H' => Pv σ' H' ∧ μ σ' H' < μ σ H, ct := fun σ' H' => Pv σ' H' ∧ μ σ' H' < μ σ H, bk := D.nx } σ H1 else D.nx σ H1)
    (mono : ∀ σ H Q Q', (∀ b H1, Q b H1 → Q' b H1) → c σ H Q → c σ H Q') : tWhile c tb D σ H := by
  refine ⟨fun m σ H => m = μ σ H ∧ Pv σ H, ⟨_, rfl, h0⟩, ?_⟩
  rintro m σ H ⟨rfl, p⟩
  refine mono σ H _ _ (fun b H1 q => ?_) (hs σ H p)
  cases b with
  | true => exact ⟨_, fun σ' H' ⟨p', l⟩ => ⟨_, l, rfl, p'⟩, q⟩
  | false => exact q
end L2

namespace L2
open PySem PySem.Spec PyProof.Rows

abbrev R2 := V → V → Hp → VK → Prop
/-- a two-place operation on values: f is binaryOp op, inplaceOp op or compareOp op -/
def OpR (X : Cx) (f : Value → Value → Sem Value) (r : R2) : Prop :=
  ∀ (pins : List (Addr × Obj)) (s : Shared) (σ : St) (H : Hp) (x y : V) (v u : Value) (Q : VK), Inv X pins σ H s → RelV x v → RelV y u → r x y H Q →
    wpAny (model X.prog X.w) X.A (f v u) (EP X pins σ Q) X.xe s
/-- a one-place operation -/
def UnR (X : Cx) (f : Value → Sem Value) (r : V → Hp → VK → Prop) : Prop :=
  ∀ (pins : List (Addr × Obj)) (s : Shared) (σ : St) (H : Hp) (x : V) (v : Value) (Q : VK), Inv X pins σ H s → RelV x v → r x H Q →
    wpAny (model X.prog X.w) X.A (f v) (EP X pins σ Q) X.xe s
/-- a call of a value that is known (a builtin, a type) with values -/
def CallR (X : Cx) (f : Value) (r : List V → Hp → VK → Prop) : Prop :=
  ∀ (pins : List (Addr × Obj)) (s : Shared) (σ : St) (H : Hp) (xs : List V) (us : List Value) (Q : VK), Inv X pins σ H s → Vals xs us → r xs H Q →
    wpAny (model X.prog X.w) X.A (call f us) (EP X pins σ Q) X.xe s
/-- a value's truth -/
def TruR (X : Cx) (r : V → Hp → (Bool → Hp → Prop) → Prop) : Prop :=
  ∀ (pins : List (Addr × Obj)) (s : Shared) (σ : St) (H : Hp) (x : V) (v : Value) (Q : Bool → Hp → Prop), Inv X pins σ H s → RelV x v → r x H Q →
    wpAny (model X.prog X.w) X.A (truthy v) (TP X pins σ Q) X.xe s

def tOp (r : R2) (ta tb : TE) : TE := fun σ H Q => ta σ H fun x H1 => tb σ H1 fun y H2 => r x y H2 Q
def tUn (r : V → Hp → VK → Prop) (ta : TE) : TE := fun σ H Q => ta σ H fun x H1 => r x H1 Q
/-- ints in, under C, and a value out -/
def rI (C : Int → Int → Prop) (g : Int → Int → V) : R2 := fun x y H Q => ∃ i j, x = .int i ∧ y = .int j ∧ C i j ∧ Q (g i j) H
def rI0 (g : Int → Int → V) : R2 := fun x y H Q => ∃ i j, x = .int i ∧ y = .int j ∧ Q (g i j) H
def rU (g : Int → V) : V → Hp → VK → Prop := fun x H Q => ∃ i, x = .int i ∧ Q (g i) H

section
variable {X : Cx} {a b c : Expr} {ta tb tc : TE} {pos : Pos}

theorem binT (ha : PE X a ta) (hb : PE X b tb) {pins : List (Addr × Obj)} {s : Shared} {σ : St} {H : Hp} {R : V → V → Hp → Prop} (I : Inv X pins σ H s)
    (h : ta σ H fun x H1 => tb σ H1 fun y H2 => R x y H2) {Q : Value → Shared → Prop} {f : Value → Value → Sem Value}
    (hf : ∀ v u s2 x y H2, Inv X pins σ H2 s2 → RelV x v → RelV y u → R x y H2 → wpAny (model X.prog X.w) X.A (f v u) Q X.xe s2) :
    wpAny (model X.prog X.w) X.A (eval a X.env) (fun v s₁ => wpAny (model X.prog X.w) X.A (eval b X.env) (fun u s₂ => wpAny (model X.prog X.w) X.A (f v u) Q X.xe s₂) X.xe s₁) X.xe s := by
  refine thn (ha pins s σ H _ I h) fun v s1 ⟨x, H1, I1, r1, q1⟩ => ?_
  refine thn (hb pins s1 σ H1 _ I1 q1) fun u s2 ⟨y, H2, I2, r2, q2⟩ => ?_
  exact hf v u s2 x y H2 I2 r1 r2 q2

theorem pe_op {op : Operator} {r : R2} (ho : OpR X (binaryOp op) r) (ha : PE X a ta) (hb : PE X b tb) : PE X (.BinOp a op b pos) (tOp r ta tb) := by
  intro pins s σ H Q I h
  exact wpAny_BinOp (binT ha hb I h fun v u s2 x y H2 I2 rx ry q => ho pins s2 σ H2 x y v u Q I2 rx ry q)
theorem pe_un {op : UnaryOp} {r : V → Hp → VK → Prop} (ho : UnR X (unaryOp op) r) (ha : PE X a ta) : PE X (.UnaryOp op a pos) (tUn r ta) := by
  intro pins s σ H Q I h
  exact UnaryOp_ (thn (ha pins s σ H _ I h) fun v s1 ⟨x, H1, I1, r1, q1⟩ => ho pins s1 σ H1 x v Q I1 r1 q1)
/-- a op= e at a name: the name's slot i -/
theorem augR {op : Operator} {r : R2} (ho : OpR X (inplaceOp op) r) {pins : List (Addr × Obj)} {s : Shared} {σ : St} {H : Hp} {x y : V} {v u : Value} {Q : VK} (I : Inv X pins σ H s)
    (rx : RelV x v) (ry : RelV y u) (q : r x y H Q) : wpAny (model X.prog X.w) X.A (inplaceOp op v u) (EP X pins σ Q) X.xe s := ho pins s σ H x y v u Q I rx ry q

/-! ### ints -/
theorem opI {f : Value → Value → Sem Value} {C : Int → Int → Prop} {g : Int → Int → Int}
    (rule : ∀ (i j : Int) (t u : Tok) (s : Shared) (Q : Value → Shared → Prop) (E : Value → Shared → Prop), C i j → Q (.int (g i j) s.toks) { s with toks := s.toks + 1 } → wpAny (model X.prog X.w) X.A (f (.int i t) (.int j u)) Q E s) :
    OpR X f (rI C fun i j => .int (g i j)) := by
  intro pins s σ H x y v u Q I rx ry h
  obtain ⟨i, j, rfl, rfl, hc, q⟩ := h
  obtain ⟨t, rfl⟩ := rx
  obtain ⟨t', rfl⟩ := ry
  exact rule i j t t' s _ _ hc ⟨.int (g i j), H, I.tok _, ⟨_, rfl⟩, q⟩
theorem opI0 {f : Value → Value → Sem Value} {g : Int → Int → Int}
    (rule : ∀ (i j : Int) (t u : Tok) (s : Shared) (Q : Value → Shared → Prop) (E : Value → Shared → Prop), Q (.int (g i j) s.toks) { s with toks := s.toks + 1 } → wpAny (model X.prog X.w) X.A (f (.int i t) (.int j u)) Q E s) :
    OpR X f (rI0 fun i j => .int (g i j)) := by
  intro pins s σ H x y v u Q I rx ry h
  obtain ⟨i, j, rfl, rfl, q⟩ := h
  obtain ⟨t, rfl⟩ := rx
  obtain ⟨t', rfl⟩ := ry
  exact rule i j t t' s _ _ ⟨.int (g i j), H, I.tok _, ⟨_, rfl⟩, q⟩
theorem opB0 {f : Value → Value → Sem Value} {g : Int → Int → Bool}
    (rule : ∀ (i j : Int) (t u : Tok) (s : Shared) (Q : Value → Shared → Prop) (E : Value → Shared → Prop), Q (.bool (g i j)) s → wpAny (model X.prog X.w) X.A (f (.int i t) (.int j u)) Q E s) :
    OpR X f (rI0 fun i j => .bl (g i j)) := by
  intro pins s σ H x y v u Q I rx ry h
  obtain ⟨i, j, rfl, rfl, q⟩ := h
  obtain ⟨t, rfl⟩ := rx
  obtain ⟨t', rfl⟩ := ry
  exact rule i j t t' s _ _ ⟨.bl (g i j), H, I, rfl, q⟩

def CDiv (i j : Int) : Prop := 0 < j ∧ j < 1073741824
def CDivN (i j : Int) : Prop := j ≠ 0 ∧ j.natAbs < 1073741824
def CPow (i j : Int) : Prop := 0 ≤ j ∧ j ≤ 1000000 ∧ i.natAbs < 2 ^ 64
def CMul (i j : Int) : Prop := (-(2 ^ 64) < i ∧ i < 2 ^ 64) ∨ (-(2 ^ 64) < j ∧ j < 2 ^ 64)
theorem CMul.ok {i j : Int} (h : CMul i j) : IntMulOk i j := by
  rcases h with ⟨h1, h2⟩ | ⟨h1, h2⟩
  · exact .of_left (intBits_le_64 h1 h2)
  · exact .of_right (intBits_le_64 h1 h2)
theorem two_pow_nn (k : Nat) : (0 : Int) ≤ 2 ^ k := by
  rw [two_pow_cast]
  exact Int.natCast_nonneg _

theorem op_add : OpR X (binaryOp .Add) (rI0 fun i j => .int (i + j)) := opI0 fun _ _ _ _ _ _ _ q => add_int q
theorem op_sub : OpR X (binaryOp .Sub) (rI0 fun i j => .int (i - j)) := opI0 fun _ _ _ _ _ _ _ q => sub_int q
theorem op_mul : OpR X (binaryOp .Mult) (rI CMul fun i j => .int (i * j)) := opI fun _ _ _ _ _ _ _ hc q => mul_int q hc.ok
/-- // by a positive divisor -/
theorem op_fdiv : OpR X (binaryOp .FloorDiv) (rI CDiv fun i j => .int (i / j)) := opI fun i j _ _ _ _ _ hc q => by
  have h1 : (0 : Int) < j := hc.1
  have h2 : j < 1073741824 := hc.2
  exact floordiv_int (by omega) (by rw [Int.fdiv_eq_ediv_of_nonneg i (by omega)]; exact q) (.inl (PyProof.noPylong_small (by omega)))
theorem op_fdivN : OpR X (binaryOp .FloorDiv) (rI CDivN fun i j => .int (i.fdiv j)) := opI fun _ _ _ _ _ _ _ hc q => floordiv_int hc.1 q (.inl (PyProof.noPylong_small hc.2))
/-- % by a positive divisor of any size -/
theorem op_mod : OpR X (binaryOp .Mod) (rI (fun _ j => 0 < j) fun i j => .int (i % j)) := opI fun i j _ _ _ _ _ hc q => by
  have h1 : (0 : Int) < j := hc
  exact mod_int' (by omega) (by rw [Int.fmod_eq_emod_of_nonneg i (by omega)]; exact q)
theorem op_modN : OpR X (binaryOp .Mod) (rI (fun _ j => j ≠ 0) fun i j => .int (i.fmod j)) := opI fun _ _ _ _ _ _ _ hc q => mod_int' hc q
theorem op_pow : OpR X (binaryOp .Pow) (rI CPow fun i j => .int (i ^ j.toNat)) := opI fun _ _ _ _ _ _ _ hc q => pow_int_small hc.1 hc.2.1 hc.2.2 q
theorem op_shl : OpR X (binaryOp .LShift) (rI CPow fun i j => .int (i * 2 ^ j.toNat)) := opI fun _ _ _ _ _ _ _ hc q => lshift_int_small hc.1 hc.2.1 hc.2.2 q
theorem op_shr : OpR X (binaryOp .RShift) (rI (fun _ j => 0 ≤ j) fun i j => .int (i / 2 ^ j.toNat)) := opI fun i j _ _ _ _ _ hc q =>
  rshift_int hc (by rw [Int.fdiv_eq_ediv_of_nonneg i (two_pow_nn _)]; exact q)
theorem op_and : OpR X (binaryOp .BitAnd) (rI0 fun i j => .int (Builtin.bitAnd i j)) := opI0 fun _ _ _ _ _ _ _ q => and_int q
theorem op_or : OpR X (binaryOp .BitOr) (rI0 fun i j => .int (Builtin.bitOr i j)) := opI0 fun _ _ _ _ _ _ _ q => or_int q
theorem op_xor : OpR X (binaryOp .BitXor) (rI0 fun i j => .int (Builtin.bitXor i j)) := opI0 fun _ _ _ _ _ _ _ q => xor_int q

theorem iop_add : OpR X (inplaceOp .Add) (rI0 fun i j => .int (i + j)) := opI0 fun _ _ _ _ _ _ _ q => iadd_int q
theorem iop_sub : OpR X (inplaceOp .Sub) (rI0 fun i j => .int (i - j)) := opI0 fun _ _ _ _ _ _ _ q => isub_int q
theorem iop_mul : OpR X (inplaceOp .Mult) (rI CMul fun i j => .int (i * j)) := opI fun _ _ _ _ _ _ _ hc q => imul_int q hc.ok
theorem iop_fdiv : OpR X (inplaceOp .FloorDiv) (rI CDiv fun i j => .int (i / j)) := opI fun i j _ _ _ _ _ hc q => by
  have h1 : (0 : Int) < j := hc.1
  have h2 : j < 1073741824 := hc.2
  exact ifloordiv_int (by omega) (by rw [Int.fdiv_eq_ediv_of_nonneg i (by omega)]; exact q) (.inl (PyProof.noPylong_small (by omega)))
theorem iop_mod : OpR X (inplaceOp .Mod) (rI (fun _ j => 0 < j) fun i j => .int (i % j)) := opI fun i j _ _ _ _ _ hc q => by
  have h1 : (0 : Int) < j := hc
  exact imod_int (by omega) (by rw [Int.fmod_eq_emod_of_nonneg i (by omega)]; exact q)
theorem iop_shl : OpR X (inplaceOp .LShift) (rI CPow fun i j => .int (i * 2 ^ j.toNat)) := opI fun _ _ _ _ _ _ _ hc q => ilshift_int_small hc.1 hc.2.1 hc.2.2 q
theorem iop_shr : OpR X (inplaceOp .RShift) (rI (fun _ j => 0 ≤ j) fun i j => .int (i / 2 ^ j.toNat)) := opI fun i j _ _ _ _ _ hc q =>
  irshift_int hc (by rw [Int.fdiv_eq_ediv_of_nonneg i (two_pow_nn _)]; exact q)
theorem iop_and : OpR X (inplaceOp .BitAnd) (rI0 fun i j => .int (Builtin.bitAnd i j)) := opI0 fun _ _ _ _ _ _ _ q => iand_int q
theorem iop_or : OpR X (inplaceOp .BitOr) (rI0 fun i j => .int (Builtin.bitOr i j)) := opI0 fun _ _ _ _ _ _ _ q => ior_int q
theorem iop_xor : OpR X (inplaceOp .BitXor) (rI0 fun i j => .int (Builtin.bitXor i j)) := opI0 fun _ _ _ _ _ _ _ q => ixor_int q

theorem unI {f : Value → Sem Value} {g : Int → Int}
    (rule : ∀ (i : Int) (t : Tok) (s : Shared) (Q : Value → Shared → Prop) (E : Value → Shared → Prop), Q (.int (g i) s.toks) { s with toks := s.toks + 1 } → wpAny (model X.prog X.w) X.A (f (.int i t)) Q E s) :
    UnR X f (rU fun i => .int (g i)) := by
  intro pins s σ H x v Q I rx h
  obtain ⟨i, rfl, q⟩ := h
  obtain ⟨t, rfl⟩ := rx
  exact rule i t s _ _ ⟨.int (g i), H, I.tok _, ⟨_, rfl⟩, q⟩
theorem un_neg : UnR X (unaryOp .USub) (rU fun i => .int (-i)) := unI fun _ _ _ _ _ q => neg_int q
theorem un_inv : UnR X (unaryOp .Invert) (rU fun i => .int (Builtin.bitNot i)) := unI fun _ _ _ _ _ q => invert_int q

/-! ### bools among ints: n += (a < b) -/
theorem op_add_ib : OpR X (binaryOp .Add) (fun x y H Q => ∃ i k, x = .int i ∧ y = .bl k ∧ Q (.int (i + b2i k)) H) := by
  intro pins s σ H x y v u Q I rx ry h
  obtain ⟨i, k, rfl, rfl, q⟩ := h
  obtain ⟨t, rfl⟩ := rx
  cases ry
  exact add_int_bool ⟨.int (i + b2i k), H, I.tok _, ⟨_, rfl⟩, q⟩
end

/-! ### comparisons -/
/-- the scalars that == tells apart as data does -/
def scal : V → V → Bool
  | .non, .non => true | .non, .int _ => true | .int _, .non => true | .non, .bl _ => true | .bl _, .non => true | .non, .str _ => true | .str _, .non => true
  | .int _, .int _ => true | .bl _, .bl _ => true | .str _, .str _ => true | .byt _, .byt _ => true
  | .int _, .str _ => true | .str _, .int _ => true | .bl _, .str _ => true | .str _, .bl _ => true
  | _, _ => false
def rEq : R2 := fun x y H Q => scal x y = true ∧ Q (.bl (decide (x = y))) H
def rNe : R2 := fun x y H Q => scal x y = true ∧ Q (.bl (!decide (x = y))) H

theorem dec_int {i j : Int} : decide (V.int i = V.int j) = (i == j) := by
  rw [Bool.eq_iff_iff]
  simp
theorem dec_bl {i j : Bool} : decide (V.bl i = V.bl j) = (i == j) := by
  rw [Bool.eq_iff_iff]
  simp
theorem dec_str {i j : Str} : decide (V.str i = V.str j) = (i == j) := by
  rw [Bool.eq_iff_iff]
  simp
theorem dec_byt {i j : Array UInt8} : decide (V.byt i = V.byt j) = (i.toList == j.toList) := by
  rw [Bool.eq_iff_iff]
  cases i
  cases j
  simp

section
variable {X : Cx} {a b c : Expr} {ta tb tc : TE} {pos : Pos}
theorem fin_bl {pins : List (Addr × Obj)} {σ : St} {H : Hp} {s : Shared} {Q : VK} {k k' : Bool} (I : Inv X pins σ H s) (q : Q (.bl k) H) (e : k = k') : EP X pins σ Q (.bool k') s := by
  subst e
  exact ⟨.bl k, H, I, rfl, q⟩
theorem op_eq : OpR X (compareOp .Eq) rEq := by
  intro pins s σ H x y v u Q I rx ry h
  obtain ⟨hs, q⟩ := h
  cases x with
  | non =>
    cases rx
    cases y with
    | non => cases ry; exact PySem.EqNone.eq_none_none (fin_bl I q (by simp))
    | bl j => cases ry; exact PySem.EqNone.eq_none_bool (fin_bl I q (by simp))
    | int j => obtain ⟨t', rfl⟩ := ry; exact PySem.EqNone.eq_none_int (fin_bl I q (by simp))
    | str j => obtain ⟨t', rfl⟩ := ry; exact PySem.EqNone.eq_none_str (fin_bl I q (by simp))
    | _ => exact absurd (show false = true from hs) Bool.false_ne_true
  | bl i =>
    cases rx
    cases y with
    | non => cases ry; exact PySem.EqNone.eq_bool_none (fin_bl I q (by simp))
    | bl j => cases ry; exact eq_bool (fin_bl I q dec_bl)
    | str j => obtain ⟨t', rfl⟩ := ry; exact PySem.EqMixed.eq_bool_str (fin_bl I q (by simp))
    | _ => exact absurd (show false = true from hs) Bool.false_ne_true
  | int i =>
    obtain ⟨t, rfl⟩ := rx
    cases y with
    | non => cases ry; exact PySem.EqNone.eq_int_none (fin_bl I q (by simp))
    | int j => obtain ⟨t', rfl⟩ := ry; exact eq_int (fin_bl I q dec_int)
    | str j => obtain ⟨t', rfl⟩ := ry; exact PySem.EqMixed.eq_int_str (fin_bl I q (by simp))
    | _ => exact absurd (show false = true from hs) Bool.false_ne_true
  | str i =>
    obtain ⟨t, rfl⟩ := rx
    cases y with
    | non => cases ry; exact PySem.EqNone.eq_str_none (fin_bl I q (by simp))
    | bl j => cases ry; exact PySem.EqMixed.eq_str_bool (fin_bl I q (by simp))
    | int j => obtain ⟨t', rfl⟩ := ry; exact PySem.EqMixed.eq_str_int (fin_bl I q (by simp))
    | str j => obtain ⟨t', rfl⟩ := ry; exact eq_str (fin_bl I q dec_str)
    | _ => exact absurd (show false = true from hs) Bool.false_ne_true
  | byt i =>
    obtain ⟨t, rfl⟩ := rx
    cases y with
    | byt j => obtain ⟨t', rfl⟩ := ry; exact PySem.W.eq_bytes (fin_bl I q dec_byt)
    | _ => exact absurd (show false = true from hs) Bool.false_ne_true
  | _ => cases y <;> exact absurd (show false = true from hs) Bool.false_ne_true
theorem op_ne : OpR X (compareOp .NotEq) rNe := by
  intro pins s σ H x y v u Q I rx ry h
  obtain ⟨hs, q⟩ := h
  cases x with
  | non =>
    cases rx
    cases y with
    | non => cases ry; exact PySem.EqNone.ne_none_none (fin_bl I q (by simp))
    | bl j => cases ry; exact PySem.EqNone.ne_none_bool (fin_bl I q (by simp))
    | int j => obtain ⟨t', rfl⟩ := ry; exact PySem.EqNone.ne_none_int (fin_bl I q (by simp))
    | str j => obtain ⟨t', rfl⟩ := ry; exact PySem.EqNone.ne_none_str (fin_bl I q (by simp))
    | _ => exact absurd (show false = true from hs) Bool.false_ne_true
  | bl i =>
    cases rx
    cases y with
    | non => cases ry; exact PySem.EqNone.ne_bool_none (fin_bl I q (by simp))
    | bl j => cases ry; exact ne_bool (fin_bl I q (congrArg not dec_bl))
    | str j => obtain ⟨t', rfl⟩ := ry; exact PySem.EqMixed.ne_bool_str (fin_bl I q (by simp))
    | _ => exact absurd (show false = true from hs) Bool.false_ne_true
  | int i =>
    obtain ⟨t, rfl⟩ := rx
    cases y with
    | non => cases ry; exact PySem.EqNone.ne_int_none (fin_bl I q (by simp))
    | int j => obtain ⟨t', rfl⟩ := ry; exact ne_int (fin_bl I q (congrArg not dec_int))
    | str j => obtain ⟨t', rfl⟩ := ry; exact PySem.EqMixed.ne_int_str (fin_bl I q (by simp))
    | _ => exact absurd (show false = true from hs) Bool.false_ne_true
  | str i =>
    obtain ⟨t, rfl⟩ := rx
    cases y with
    | non => cases ry; exact PySem.EqNone.ne_str_none (fin_bl I q (by simp))
    | bl j => cases ry; exact PySem.EqMixed.ne_str_bool (fin_bl I q (by simp))
    | int j => obtain ⟨t', rfl⟩ := ry; exact PySem.EqMixed.ne_str_int (fin_bl I q (by simp))
    | str j => obtain ⟨t', rfl⟩ := ry; exact ne_str (fin_bl I q (congrArg not dec_str))
    | _ => exact absurd (show false = true from hs) Bool.false_ne_true
  | byt i =>
    obtain ⟨t, rfl⟩ := rx
    cases y with
    | byt j => obtain ⟨t', rfl⟩ := ry; exact PySem.W.ne_bytes (fin_bl I q (congrArg not dec_byt))
    | _ => exact absurd (show false = true from hs) Bool.false_ne_true
  | _ => cases y <;> exact absurd (show false = true from hs) Bool.false_ne_true

theorem op_lt : OpR X (compareOp .Lt) (rI0 fun i j => .bl (decide (i < j))) := opB0 fun _ _ _ _ _ _ _ q => lt_int q
theorem op_le : OpR X (compareOp .LtE) (rI0 fun i j => .bl (decide (i ≤ j))) := opB0 fun _ _ _ _ _ _ _ q => le_int q
theorem op_gt : OpR X (compareOp .Gt) (rI0 fun i j => .bl (decide (j < i))) := opB0 fun _ _ _ _ _ _ _ q => gt_int q
theorem op_ge : OpR X (compareOp .GtE) (rI0 fun i j => .bl (decide (j ≤ i))) := opB0 fun _ _ _ _ _ _ _ q => ge_int q
theorem op_lt_str : OpR X (compareOp .Lt) (fun x y H Q => ∃ i j, x = .str i ∧ y = .str j ∧ Q (.bl (decide (i.cps.toList < j.cps.toList))) H) := by
  intro pins s σ H x y v u Q I rx ry h
  obtain ⟨i, j, rfl, rfl, q⟩ := h
  obtain ⟨t, rfl⟩ := rx
  obtain ⟨t', rfl⟩ := ry
  exact lt_str (fin_bl I q rfl)
/-- the one string within the other -/
theorem op_in_str : OpR X (compareOp .In) (fun x y H Q => ∃ i j, x = .str i ∧ y = .str j ∧ Q (.bl (!(Builtin.Str.occurrences j i 0 j.length 1).isEmpty)) H) := by
  intro pins s σ H x y v u Q I rx ry h
  obtain ⟨i, j, rfl, rfl, q⟩ := h
  obtain ⟨t, rfl⟩ := rx
  obtain ⟨t', rfl⟩ := ry
  exact in_str (fin_bl I q rfl)

/-- is None, is not None: the right side a value none -/
theorem op_isN : OpR X (compareOp .Is) (fun x y H Q => y = .non ∧ Q (.bl (decide (x = .non))) H) := by
  intro pins s σ H x y v u Q I rx ry h
  obtain ⟨rfl, q⟩ := h
  cases ry
  refine is_none_gen (fin_bl I q ?_)
  cases x <;> first
    | (cases rx; rfl)
    | (obtain ⟨t, rfl⟩ := rx; rfl)
theorem op_notN : OpR X (compareOp .IsNot) (fun x y H Q => y = .non ∧ Q (.bl (!decide (x = .non))) H) := by
  intro pins s σ H x y v u Q I rx ry h
  obtain ⟨rfl, q⟩ := h
  cases ry
  refine isnot_none_gen (fin_bl I q ?_)
  cases x <;> first
    | (cases rx; rfl)
    | (obtain ⟨t, rfl⟩ := rx; rfl)

theorem op_notin_str : OpR X (compareOp .NotIn) (fun x y H Q => ∃ i j, x = .str i ∧ y = .str j ∧ Q (.bl (!(!(Builtin.Str.occurrences j i 0 j.length 1).isEmpty))) H) := by
  intro pins s σ H x y v u Q I rx ry h
  obtain ⟨i, j, rfl, rfl, q⟩ := h
  obtain ⟨t, rfl⟩ := rx
  obtain ⟨t', rfl⟩ := ry
  exact notIn_str (fin_bl I q rfl)
/-- is, is not of two objects that are tracked lists or instances -/
def isObj : HO → Bool
  | .lst _ => true
  | .ins _ _ _ => true
  | _ => false
theorem obj_there {pins : List (Addr × Obj)} {s : Shared} {σ : St} {H : Hp} {a : Addr} {o : HO} (I : Inv X pins σ H s) (h : H a = some o) (p : isObj o = true) : ∃ ob, s.heap.get? a = some ob ∧ ob.cls ≠ .type "tuple" := by
  cases o with
  | lst xs =>
    obtain ⟨_, its, n, _, e⟩ : xs.length ≤ sizeLine ∧ ∃ (its : List Value) (n : Nat), Vals xs its ∧ s.heap.get? a = some { cls := .type "list", data := .seq its.toArray n } := I.hok a _ h
    exact ⟨_, e, (by show Value.type "list" ≠ .type "tuple"; decide +kernel)⟩
  | ins C dx fs =>
    have x := I.hok a _ h
    obtain ⟨_, _, _, e, _⟩ := x
    exact ⟨_, e, (by show Value.ref C ≠ .type "tuple"; exact fun z => by cases z)⟩
  | _ => exact absurd (show false = true from p) Bool.false_ne_true
theorem op_is_ref : OpR X (compareOp .Is) (fun x y H Q => ∃ a b oa ob, x = .ref a ∧ y = .ref b ∧ H a = some oa ∧ isObj oa = true ∧ H b = some ob ∧ isObj ob = true ∧ Q (.bl (decide (a = b))) H) := by
  intro pins s σ H x y v u Q I rx ry h
  obtain ⟨a, b, oa, ob, rfl, rfl, ha, pa, hb, pb, q⟩ := h
  cases rx
  cases ry
  obtain ⟨o1, e1, n1⟩ := obj_there I ha pa
  obtain ⟨o2, e2, _⟩ := obj_there I hb pb
  by_cases z : a = b
  · subst z
    exact wpAny_is_ref_self (fin_bl I q (by simp))
  · exact wpAny_is_ref_other z e1 e2 n1 (fin_bl I q (by simp [z]))
theorem op_isnot_ref : OpR X (compareOp .IsNot) (fun x y H Q => ∃ a b oa ob, x = .ref a ∧ y = .ref b ∧ H a = some oa ∧ isObj oa = true ∧ H b = some ob ∧ isObj ob = true ∧ Q (.bl (!decide (a = b))) H) := by
  intro pins s σ H x y v u Q I rx ry h
  obtain ⟨a, b, oa, ob, rfl, rfl, ha, pa, hb, pb, q⟩ := h
  cases rx
  cases ry
  obtain ⟨o1, e1, n1⟩ := obj_there I ha pa
  obtain ⟨o2, e2, _⟩ := obj_there I hb pb
  by_cases z : a = b
  · subst z
    exact wpAny_isNot_ref_self (fin_bl I q (by simp))
  · exact wpAny_isNot_ref_other z e1 e2 n1 (fin_bl I q (by simp [z]))

/-- two rules for one operation: by cases -/
theorem OpR.or {f : Value → Value → Sem Value} {r r' : R2} (h : OpR X f r) (h' : OpR X f r') : OpR X f (fun x y H Q => r x y H Q ∨ r' x y H Q) := by
  intro pins s σ H x y v u Q I rx ry q
  rcases q with q | q
  · exact h pins s σ H x y v u Q I rx ry q
  · exact h' pins s σ H x y v u Q I rx ry q

theorem nomark (b : Expr) {op : CmpOp} (h : op ≠ .In := by decide) (h2 : op ≠ .NotIn := by decide) : behindInMarks op b = false := by
  have e1 : (op == CmpOp.In) = false := by cases op <;> first | rfl | exact absurd rfl h
  have e2 : (op == CmpOp.NotIn) = false := by cases op <;> first | rfl | exact absurd rfl h2
  cases b <;> simp [behindInMarks, e1, e2]
/-- a comparison as a value; hm: nomark b, or (for in, not in) by with_unfolding_all rfl -/
theorem pe_cmpR {op : CmpOp} {r : R2} (ho : OpR X (compareOp op) r) (ha : PE X a ta) (hb : PE X b tb) (hm : behindInMarks op b = false) : PE X (.Compare a [op] [b] pos) (tOp r ta tb) := by
  intro pins s σ H Q I h
  exact wpAny_Compare1 (binT ha hb I h fun v u s2 x y H2 I2 rx ry q => ho pins s2 σ H2 x y v u Q I2 rx ry q) hm
/-- a reading of a value as a test -/
def tTest (t : TE) : TT := fun σ H Q => t σ H fun x H' => ∃ k, x = .bl k ∧ Q k H'
theorem pt_cmpR {op : CmpOp} {r : R2} (ho : OpR X (compareOp op) r) (ha : PE X a ta) (hb : PE X b tb) (hm : behindInMarks op b = false) : PT X (.Compare a [op] [b] pos) (tTest (tOp r ta tb)) := by
  intro pins s σ H Q I h
  refine wpAny_isTrue_Compare1 (thn (ha pins s σ H _ I h) fun v s1 ⟨x, H1, I1, r1, q1⟩ => thn (hb pins s1 σ H1 _ I1 q1) fun u s2 ⟨y, H2, I2, r2, q2⟩ =>
    thn (ho pins s2 σ H2 x y v u _ I2 r1 r2 q2) fun c s3 ⟨z, H3, I3, r3, k, e, q3⟩ => ?_) hm
  subst e
  cases r3
  exact wpAny_truthy_bool ⟨H3, I3, q3⟩
/-- a op1 b op2 c -/
def tChain (r r' : R2) (ta tb tc : TE) : TE := fun σ H Q => ta σ H fun x H1 => tb σ H1 fun y H2 => r x y H2 fun z H3 => ∃ k, z = .bl k ∧
  (if k = true then tc σ H3 fun w' H4 => r' y w' H4 Q else Q (.bl false) H3)
theorem pe_chain {op op' : CmpOp} {r r' : R2} (ho : OpR X (compareOp op) r) (ho' : OpR X (compareOp op') r') (ha : PE X a ta) (hb : PE X b tb) (hc : PE X c tc)
    (hm : lastMarks [op, op'] [b, c] = false := by with_unfolding_all rfl) : PE X (.Compare a [op, op'] [b, c] pos) (tChain r r' ta tb tc) := by
  intro pins s σ H Q I h
  refine Compare_chain (thn (ha pins s σ H _ I h) fun v s1 ⟨x, H1, I1, r1, q1⟩ => chain_link (thn (hb pins s1 σ H1 _ I1 q1) fun u s2 ⟨y, H2, I2, r2, q2⟩ =>
    thn (ho pins s2 σ H2 x y v u _ I2 r1 r2 q2) fun d s3 ⟨z, H3, I3, r3, k, e, q3⟩ => ?_)) hm
  subst e
  cases r3
  refine wpAny_truthy_bool ?_
  cases k with
  | false => exact ite_ff ⟨.bl false, H3, I3, rfl, q3⟩
  | true => exact ite_tt (chain_last (thn (hc pins s3 σ H3 _ I3 q3) fun w' s4 ⟨z', H4, I4, r4, q4⟩ => ho' pins s4 σ H4 y z' u w' Q I4 r2 r4 q4))
theorem pt_chain {op op' : CmpOp} {r r' : R2} (ho : OpR X (compareOp op) r) (ho' : OpR X (compareOp op') r') (ha : PE X a ta) (hb : PE X b tb) (hc : PE X c tc)
    (hm : lastMarks [op, op'] [b, c] = false := by with_unfolding_all rfl) : PT X (.Compare a [op, op'] [b, c] pos) (tTest (tChain r r' ta tb tc)) := by
  intro pins s σ H Q I h
  refine isTrue_chain (thn (ha pins s σ H _ I h) fun v s1 ⟨x, H1, I1, r1, q1⟩ => test_link (thn (hb pins s1 σ H1 _ I1 q1) fun u s2 ⟨y, H2, I2, r2, q2⟩ =>
    thn (ho pins s2 σ H2 x y v u _ I2 r1 r2 q2) fun d s3 ⟨z, H3, I3, r3, k, e, q3⟩ => ?_)) hm
  subst e
  cases r3
  refine wpAny_truthy_bool ?_
  cases k with
  | false =>
    obtain ⟨k', e', q'⟩ := q3
    cases e'
    exact ite_ff ⟨H3, I3, q'⟩
  | true =>
    refine ite_tt (test_last (thn (hc pins s3 σ H3 _ I3 q3) fun w' s4 ⟨z', H4, I4, r4, q4⟩ => thn (ho' pins s4 σ H4 y z' u w' _ I4 r2 r4 q4) fun d' s5 ⟨z2, H5, I5, r5, k2, e2, q5⟩ => ?_))
    subst e2
    cases r5
    exact wpAny_truthy_bool ⟨H5, I5, q5⟩

/-! ### truth -/
/-- a value's truth by the abstract heap -/
def TruV (K : PySem.W.Frag) (x : V) (H : Hp) (k : Bool) : Prop :=
  match x with
  | .non => k = false
  | .bl b => k = b
  | .int i => k = (i != 0)
  | .str y => y.length ≤ sizeLine ∧ k = ((y.length : Int) != 0)
  | .byt y => y.size ≤ sizeLine ∧ k = ((y.size : Int) != 0)
  | .ref p => (∃ xs, SqL K H p xs ∧ k = !xs.isEmpty) ∨ (∃ xs, SqT K H p xs ∧ k = !xs.isEmpty) ∨ ∃ kvs, H p = some (.dK kvs) ∧ k = !kvs.isEmpty
  | _ => False
theorem isEmpty_kv {κ : Type} {kvs : List (κ × V)} {vs : List (κ × Value)} (r : KV kvs vs) : (!vs.isEmpty) = !kvs.isEmpty := by
  cases r <;> rfl
theorem isEmpty_of {xs : List V} {its : List Value} (r : Vals xs its) : (!its.toArray.isEmpty) = !xs.isEmpty := by
  cases r <;> simp
theorem line63 : (sizeLine : Nat) < 2 ^ 63 := by rw [sizeLine_eq]; decide
theorem tru_ok : TruR X (fun x H Q => ∃ k, TruV X.K x H k ∧ Q k H) := by
  intro pins s σ H x v Q I rx h
  obtain ⟨k, e, q⟩ := h
  have hl := line63
  have hs : sizeLine = 16777216 := sizeLine_eq
  cases x with
  | non =>
    cases rx
    have e' : k = false := e
    subst e'
    exact truthy_none ⟨H, I, q⟩
  | bl b =>
    cases rx
    have e' : k = b := e
    subst e'
    exact wpAny_truthy_bool ⟨H, I, q⟩
  | int i =>
    obtain ⟨t, rfl⟩ := rx
    have e' : k = (i != 0) := e
    subst e'
    exact PySem.P.truthy_int ⟨H, I, q⟩
  | str y =>
    obtain ⟨t, rfl⟩ := rx
    obtain ⟨hy, e'⟩ : y.length ≤ sizeLine ∧ k = ((y.length : Int) != 0) := e
    subst e'
    exact PySem.P.truthy_str (by omega) ⟨H, I.tok _, q⟩
  | byt y =>
    obtain ⟨t, rfl⟩ := rx
    obtain ⟨hy, e'⟩ : y.size ≤ sizeLine ∧ k = ((y.size : Int) != 0) := e
    subst e'
    exact PySem.W.truthy_bytes (by omega) ⟨H, I.tok _, q⟩
  | ref p =>
    cases rx
    have e' : (∃ xs, SqL X.K H p xs ∧ k = !xs.isEmpty) ∨ (∃ xs, SqT X.K H p xs ∧ k = !xs.isEmpty) ∨ ∃ kvs, H p = some (.dK kvs) ∧ k = !kvs.isEmpty := e
    rcases e' with ⟨xs, hx, e'⟩ | ⟨xs, hx, e'⟩ | ⟨kvs, hx, e'⟩
    · subst e'
      obtain ⟨its, r, pl, hz⟩ := I.list hx
      have hlen := r.length
      exact wpAny_truthy_list pl.isList (by simp only [List.size_toArray]; omega) ⟨H, I.tok _, by rw [isEmpty_of r]; exact q⟩
    · subst e'
      obtain ⟨its, r, pl, hz⟩ := I.tuple hx
      have hlen := r.length
      exact truthy_tuple pl (by simp only [List.size_toArray]; omega) ⟨H, I.tok _, by rw [isEmpty_of r]; exact q⟩
    · subst e'
      obtain ⟨hz, hS, vs, r, m⟩ : kvs.length ≤ sizeLine ∧ (p == sysModules) = false ∧ ∃ vs, KV kvs vs ∧ s.heap.DictOf (mixKind X.prog X.w) p vs := I.hok p _ hx
      have hlen : kvs.length = vs.length := Paired.length r
      exact wpAny_truthy_dict hS m (by omega) ⟨H, I.tok _, by rw [isEmpty_kv r]; exact q⟩
  | _ => exact (show False from e).elim
/-- any expression whose test is its value's truth (a name, a call, a subscript, a field ..: he by fun _ => rfl) -/
theorem pt_truth (ha : PE X a ta) (he : ∀ whole, isTrue a X.env whole = (do let v ← whole; standAt a.pos; holding [v] (truthy v))) :
    PT X a (fun σ H Q => ta σ H fun x H' => ∃ k, TruV X.K x H' k ∧ Q k H') := by
  intro pins s σ H Q I h
  exact isTrue_plain (thn (ha pins s σ H _ I h) fun v s1 ⟨x, H1, I1, r1, q1⟩ => tru_ok pins s1 σ H1 x v Q I1 r1 q1) (he _)

/-! ### strs and bytes -/
theorem pe_byt {x : List UInt8} {k : Nat} : PE X (.Constant (.bytes x) k pos) (fun _ H Q => Q (.byt x.toArray) H) := fun _ _ _ H _ I h => PySem.W.Constant_bytes ⟨.byt x.toArray, H, I.tok _, ⟨_, rfl⟩, h⟩
theorem op_add_str : OpR X (binaryOp .Add) (fun x y H Q => ∃ i j, x = .str i ∧ y = .str j ∧ i.length + j.length ≤ sizeLine ∧ Q (.str (i ++ j)) H) := by
  intro pins s σ H x y v u Q I rx ry h
  obtain ⟨i, j, rfl, rfl, hz, q⟩ := h
  obtain ⟨t, rfl⟩ := rx
  obtain ⟨t', rfl⟩ := ry
  exact add_str (fun t' tk => ⟨.str (i ++ j), H, I.tok _, ⟨_, rfl⟩, q⟩) hz
theorem iop_add_str : OpR X (inplaceOp .Add) (fun x y H Q => ∃ i j, x = .str i ∧ y = .str j ∧ i.length + j.length ≤ sizeLine ∧ Q (.str (i ++ j)) H) := by
  intro pins s σ H x y v u Q I rx ry h
  obtain ⟨i, j, rfl, rfl, hz, q⟩ := h
  obtain ⟨t, rfl⟩ := rx
  obtain ⟨t', rfl⟩ := ry
  exact iadd_str (fun t' tk => ⟨.str (i ++ j), H, I.tok _, ⟨_, rfl⟩, q⟩) hz
theorem op_add_byt : OpR X (binaryOp .Add) (fun x y H Q => ∃ i j, x = .byt i ∧ y = .byt j ∧ i.size + j.size ≤ 16777216 ∧ Q (.byt (i ++ j)) H) := by
  intro pins s σ H x y v u Q I rx ry h
  obtain ⟨i, j, rfl, rfl, hz, q⟩ := h
  obtain ⟨t, rfl⟩ := rx
  obtain ⟨t', rfl⟩ := ry
  exact PySem.W.KBy.add_bytes hz (fun t' tk => ⟨.byt (i ++ j), H, I.tok _, ⟨_, rfl⟩, q⟩)

def PlainIxT (b : Expr) : Prop := ∀ o i, subscripted b false o i = operate [o, i] (getItem o i)
/-- s[i], 0 ≤ i < len -/
theorem pe_item_str (ha : PE X a ta) (hb : PE X b tb) (hs : PlainIxT b) :
    PE X (.Subscript a b pos) (tOp (fun x y H Q => ∃ z i c, x = .str z ∧ y = .int i ∧ 0 ≤ i ∧ i < 2 ^ 63 ∧ i < z.length ∧ z.cps[i.toNat]? = some c ∧ Q (.str ⟨#[c]⟩) H) ta tb) := by
  intro pins s σ H Q I h
  refine Subscript_ (binT ha hb I h fun v u s2 x y H2 I2 rx ry q => ?_)
  obtain ⟨z, i, c, rfl, rfl, h0, h63, h1, hc, q⟩ := q
  obtain ⟨t, rfl⟩ := rx
  obtain ⟨t', rfl⟩ := ry
  have e : seqIndex? i z.length = some i.toNat := PySem.StrLaws.seqIndex_nonneg h0 h1
  exact tail_any (typeIs_str s2 z t) slot_str_getitem.lookup (getItem_str (c := c) (by
    have e1 : decide (i < -(2 ^ 63 : Int)) = false := decide_eq_false (by omega)
    have e2 : decide (i ≥ 2 ^ 63) = false := decide_eq_false (by omega)
    rw [e1, e2] <;> rfl) (by rw [e]; exact hc) ⟨.str ⟨#[c]⟩, H2, I2.tok _, ⟨_, rfl⟩, q⟩) (hs _ _)
/-- b[i], 0 ≤ i < len -/
theorem pe_item_byt (ha : PE X a ta) (hb : PE X b tb) (hs : PlainIxT b) :
    PE X (.Subscript a b pos) (tOp (fun x y H Q => ∃ (z : List UInt8) (i : Int), x = .byt z.toArray ∧ y = .int i ∧ z.length ≤ sizeLine ∧ 0 ≤ i ∧ i < z.length ∧ Q (.int ((z.getD i.toNat 0).toNat : Nat)) H) ta tb) := by
  intro pins s σ H Q I h
  refine Subscript_ (binT ha hb I h fun v u s2 x y H2 I2 rx ry q => ?_)
  obtain ⟨z, i, rfl, rfl, hz, h0, h1, q⟩ := q
  obtain ⟨t, rfl⟩ := rx
  obtain ⟨t', rfl⟩ := ry
  have hl : sizeLine = 16777216 := sizeLine_eq
  exact tail_any (PySem.W.typeIs_bytes s2 z.toArray t) PySem.W.FB.slot_bytes_getitem.lookup (PySem.W.getItem_bytes (by omega) h0 h1 ⟨.int ((z.getD i.toNat 0).toNat : Nat), H2, I2.tok _, ⟨_, rfl⟩, q⟩) (hs _ _)

/-! ### scalar builtins, by CallR -/
theorem vals1 {x : V} {us : List Value} (r : Vals [x] us) : ∃ u, us = [u] ∧ RelV x u := by
  cases r with
  | cons r1 r2 => cases r2; exact ⟨_, rfl, r1⟩
theorem vals2 {x y : V} {us : List Value} (r : Vals [x, y] us) : ∃ u w', us = [u, w'] ∧ RelV x u ∧ RelV y w' := by
  cases r with
  | cons r1 r2 =>
    cases r2 with
    | cons r3 r4 => cases r4; exact ⟨_, _, rfl, r1, r3⟩
theorem call_abs : CallR X (.builtin "abs") (fun xs H Q => ∃ i, xs = [.int i] ∧ Q (.int (if i < 0 then -i else i)) H) := by
  intro pins s σ H xs us Q I r h
  obtain ⟨i, rfl, q⟩ := h
  obtain ⟨u, rfl, t, rfl⟩ := vals1 r
  exact call_abs_int fun u tk => ⟨.int (if i < 0 then -i else i), H, I.tok _, ⟨_, rfl⟩, q⟩
theorem call_max2 (hc : X.calm = true) : CallR X (.builtin "max") (fun xs H Q => ∃ i j, xs = [.int i, .int j] ∧ Q (.int (if j > i then j else i)) H) := by
  intro pins s σ H xs us Q I r h
  obtain ⟨i, j, rfl, q⟩ := h
  obtain ⟨u, w', rfl, ⟨t, rfl⟩, ⟨t', rfl⟩⟩ := vals2 r
  refine max_two_ints (I.ok.hd hc) fun h' tk k => ⟨_, H, I.kept k, ?_, q⟩
  by_cases hj : j > i
  · rw [if_pos hj, if_pos hj]; exact ⟨_, rfl⟩
  · rw [if_neg hj, if_neg hj]; exact ⟨_, rfl⟩
theorem call_min2 (hc : X.calm = true) : CallR X (.builtin "min") (fun xs H Q => ∃ i j, xs = [.int i, .int j] ∧ Q (.int (if j < i then j else i)) H) := by
  intro pins s σ H xs us Q I r h
  obtain ⟨i, j, rfl, q⟩ := h
  obtain ⟨u, w', rfl, ⟨t, rfl⟩, ⟨t', rfl⟩⟩ := vals2 r
  refine min_two_ints (I.ok.hd hc) fun h' tk k => ⟨_, H, I.kept k, ?_, q⟩
  by_cases hj : j < i
  · rw [if_pos hj, if_pos hj]; exact ⟨_, rfl⟩
  · rw [if_neg hj, if_neg hj]; exact ⟨_, rfl⟩
theorem call_int1 : CallR X (.type "int") (fun xs H Q => (∃ i, xs = [.int i] ∧ Q (.int i) H) ∨ ∃ k, xs = [.bl k] ∧ Q (.int (if k then 1 else 0)) H) := by
  intro pins s σ H xs us Q I r h
  rcases h with ⟨i, rfl, q⟩ | ⟨k, rfl, q⟩
  · obtain ⟨u, rfl, t, rfl⟩ := vals1 r
    exact call_int_int ⟨.int i, H, I, ⟨_, rfl⟩, q⟩
  · obtain ⟨u, rfl, r1⟩ := vals1 r
    cases r1
    exact call_int_bool ⟨.int (if k then 1 else 0), H, I.tok _, ⟨_, rfl⟩, q⟩
theorem call_bool1 : CallR X (.type "bool") (fun xs H Q => (∃ i, xs = [.int i] ∧ Q (.bl (i != 0)) H) ∨ ∃ k, xs = [.bl k] ∧ Q (.bl k) H) := by
  intro pins s σ H xs us Q I r h
  rcases h with ⟨i, rfl, q⟩ | ⟨k, rfl, q⟩
  · obtain ⟨u, rfl, t, rfl⟩ := vals1 r
    exact call_bool_int ⟨.bl (i != 0), H, I, rfl, q⟩
  · obtain ⟨u, rfl, r1⟩ := vals1 r
    cases r1
    exact call_bool_bool ⟨.bl k, H, I, rfl, q⟩
theorem call_str_int : CallR X (.type "str") (fun xs H Q => ∃ i, xs = [.int i] ∧ i.natAbs.log2 < 1920 ∧ Q (.str (toString i)) H) := by
  intro pins s σ H xs us Q I r h
  obtain ⟨i, rfl, hz, q⟩ := h
  obtain ⟨u, rfl, t, rfl⟩ := vals1 r
  exact PySem.P.str_of_int hz ⟨.str _, H, I.tok _, ⟨_, rfl⟩, q⟩
theorem call_ord : CallR X (.builtin "ord") (fun xs H Q => ∃ x, xs = [.str x] ∧ x.length = 1 ∧ Q (.int (x.cps.getD 0 0 : Nat)) H) := by
  intro pins s σ H xs us Q I r h
  obtain ⟨x, rfl, hz, q⟩ := h
  obtain ⟨u, rfl, t, rfl⟩ := vals1 r
  exact ord_of_one hz ⟨.int _, H, I.tok _, ⟨_, rfl⟩, q⟩
theorem call_chr : CallR X (.builtin "chr") (fun xs H Q => ∃ i, xs = [.int i] ∧ 0 ≤ i ∧ i ≤ 1114111 ∧ Q (.str ⟨#[i.toNat]⟩) H) := by
  intro pins s σ H xs us Q I r h
  obtain ⟨i, rfl, h0, h1, q⟩ := h
  obtain ⟨u, rfl, t, rfl⟩ := vals1 r
  exact chr_of_range h0 h1 ⟨.str _, H, I.tok _, ⟨_, rfl⟩, q⟩
/-- len of a str, a bytes, a list, a tuple -/
def LenV (K : PySem.W.Frag) (x : V) (H : Hp) (n : Nat) : Prop :=
  match x with
  | .str y => y.length ≤ sizeLine ∧ n = y.length
  | .byt y => y.size ≤ sizeLine ∧ n = y.size
  | .ref p => (∃ xs, SqL K H p xs ∧ n = xs.length) ∨ ∃ xs, SqT K H p xs ∧ n = xs.length
  | _ => False
theorem call_len : CallR X (.builtin "len") (fun xs H Q => ∃ x n, xs = [x] ∧ LenV X.K x H n ∧ Q (.int n) H) := by
  intro pins s σ H xs us Q I r h
  obtain ⟨x, n, rfl, e, q⟩ := h
  obtain ⟨u, rfl, rx⟩ := vals1 r
  have hl := line63
  have hs : sizeLine = 16777216 := sizeLine_eq
  cases x with
  | str y =>
    obtain ⟨t, rfl⟩ := rx
    obtain ⟨hy, e'⟩ : y.length ≤ sizeLine ∧ n = y.length := e
    subst e'
    exact len_str (by omega) ⟨.int _, H, I.tok _, ⟨_, rfl⟩, q⟩
  | byt y =>
    obtain ⟨t, rfl⟩ := rx
    obtain ⟨hy, e'⟩ : y.size ≤ sizeLine ∧ n = y.size := e
    subst e'
    exact PySem.W.len_bytes (by omega) ⟨.int _, H, I.tok _, ⟨_, rfl⟩, q⟩
  | ref p =>
    cases rx
    have e' : (∃ xs, SqL X.K H p xs ∧ n = xs.length) ∨ ∃ xs, SqT X.K H p xs ∧ n = xs.length := e
    rcases e' with ⟨xs, hx, e'⟩ | ⟨xs, hx, e'⟩
    · subst e'
      obtain ⟨its, r', pl, hz⟩ := I.list hx
      have hlen := r'.length
      exact Calls.call_len_list pl.isList (by simp only [List.size_toArray]; omega) ⟨.int xs.length, H, I.tok _, ⟨_, by simp only [List.size_toArray]; rw [hlen]⟩, q⟩
    · subst e'
      obtain ⟨its, r', pl, hz⟩ := I.tuple hx
      have hlen := r'.length
      exact len_tuple pl (by simp only [List.size_toArray]; omega) ⟨.int xs.length, H, I.tok _, ⟨_, by simp only [List.size_toArray]; rw [hlen]⟩, q⟩
  | _ => exact (show False from e).elim
/-- divmod: a new tuple -/
theorem call_divmod : CallR X (.builtin "divmod") (fun xs H Q => ∃ i j, xs = [.int i, .int j] ∧ CDiv i j ∧ ∀ p, H p = none → Q (.ref p) (upd H p (.tup [.int (i / j), .int (i % j)]))) := by
  intro pins s σ H xs us Q I r h
  obtain ⟨i, j, rfl, ⟨h1, h2⟩, q⟩ := h
  obtain ⟨u, w', rfl, ⟨t, rfl⟩, ⟨t', rfl⟩⟩ := vals2 r
  refine divmod_int (by omega) ?_ (.inl (PyProof.noPylong_small (by omega)))
  rw [Int.fdiv_eq_ediv_of_nonneg i (by omega), Int.fmod_eq_emod_of_nonneg i (by omega)]
  have hn : H s.heap.objs.size = none := I.hok.fresh (Nat.le_refl _)
  refine ⟨.ref s.heap.objs.size, _, ?_, rfl, q _ hn⟩
  refine I.laid (fun b o e => Heap.get?_push_of_some _ e) (Nat.le_refl _) ⟨by simp only [List.length_cons, List.length_nil]; rw [sizeLine_eq]; decide, [.int (i / j) s.toks, .int (i % j) (s.toks + 1)], .cons ⟨_, rfl⟩ (.cons ⟨_, rfl⟩ .nil), ?_⟩
  exact ⟨_, Heap.get?_push_size s.heap rfl, rfl, 0, rfl⟩
end
end L2

namespace L2
open PySem PySem.Spec PyProof.Rows

/-! ### an instance, its attributes a map -/
structure ObjM (h : Heap) (x dx C : Addr) (mA : Str → Option Value) : Prop where
  obj : h.get? x = some (PySem.W.instObj C dx)
  ns : h.Ns1 dx mA
  ne : dx ≠ x

theorem lookIn_ns {h : Heap} {dx : Addr} {mA : Str → Option Value} (n : h.Ns1 dx mA) : ∃ od, h.get? dx = some od ∧ ∀ name, PySem.W.lookIn name od = some (mA name) := by
  obtain ⟨o, es, ep, ho, hd, hk, _, hm⟩ := n
  refine ⟨o, ho, fun name => ?_⟩
  have e := hm name
  unfold nsFind findBy at e
  rw [← Array.find?_toList] at e
  unfold PySem.W.lookIn
  rw [hd]
  dsimp only
  split
  · rename_i y q
    rw [q] at e
    exact congrArg some e
  · rename_i q
    rw [q] at e
    have a : es.toList.any (·.refKey) = false := by
      rw [List.any_eq_false]
      intro y hy
      obtain ⟨z, t, hkey⟩ := hk y (Array.mem_toList_iff.mp hy)
      simp [DictEntry.refKey, hkey]
    have a' : ¬ es.toList.any (·.refKey) = true := by rw [a]; exact Bool.false_ne_true
    rw [if_neg a']
    exact congrArg some e

theorem ObjM.look {h : Heap} {x dx C : Addr} {mA : Str → Option Value} (I : ObjM h x dx C mA) : ∃ od, PySem.W.InstAt h x (PySem.W.instObj C dx) C (some od) ∧ ∀ name, PySem.W.lookIn name od = some (mA name) :=
  let ⟨od, ho, hl⟩ := lookIn_ns I.ns
  ⟨od, ⟨I.obj, rfl, rfl, ho⟩, hl⟩

section
variable {prog : Program} {w : World} {A : Around} {E : Value → Shared → Prop} {s : Shared} {K : PySem.W.Frag} {x dx C f : Addr} {mA : Str → Option Value} {name : Str} {v : Value}

theorem get_map {expr : Bool} {Q : Value → Shared → Prop} (X : K.In s.heap) (I : ObjM s.heap x dx C mA) (hg : PySem.W.plainGet K C name = true) (hh : PySem.W.hasDictIn K C = true)
    (ha : PySem.W.findIn K (.ref C) name = some none) (hv : mA name = some v) (hv' : PySem.W.handedIn v = true) (h : Q v { s with toks := s.toks + 1 }) :
    wpAny (model prog w) A (getAttr (.ref x) name expr) Q E s := by
  obtain ⟨od, J, hl⟩ := I.look
  exact PySem.W.get_value X J (PySem.W.plainGet_of hg).1 (PySem.W.findObj_own hh ha rfl (by rw [hl, hv])) hv' h

theorem get_const {expr : Bool} {a : Value} {Q : Value → Shared → Prop} (X : K.In s.heap) (I : ObjM s.heap x dx C mA) (hg : PySem.W.plainGet K C name = true) (hh : PySem.W.hasDictIn K C = true)
    (ha : PySem.W.findIn K (.ref C) name = some (some a)) (hn : PySem.W.specialIn K a "__get__" = some none) (hc : PySem.W.copiedNames.contains name = false) (hv : mA name = none) (hv' : PySem.W.handedIn a = true)
    (h : Q a { s with toks := s.toks + 1 }) : wpAny (model prog w) A (getAttr (.ref x) name expr) Q E s := by
  obtain ⟨od, J, hl⟩ := I.look
  exact PySem.W.get_value X J (PySem.W.plainGet_of hg).1 (PySem.W.findObj_cls hh ha hn hv' hc (by rw [hl, hv])) hv' h

theorem get_meth {pl : Sem Bool} {Q : Value × List Value → Shared → Prop} (X : K.In s.heap) (I : ObjM s.heap x dx C mA) (hg : PySem.W.plainGet K C name = true)
    (hf : PySem.W.findIn K (.ref C) name = some (some (.ref f))) (ht : PySem.W.isFn K (.ref f) = true) (hv : mA name = none) (h : Q (.ref f, [.ref x]) s) :
    wpAny (model prog w) A (getMethod (.ref x) name pl) Q E s := by
  obtain ⟨od, J, hl⟩ := I.look
  exact PySem.W.method_fn X J (PySem.W.plainGet_of hg).1 (PySem.W.plainGet_of hg).2 hf (beq_iff_eq.mp ht) (by show (PySem.W.lookIn name od).map (·.isSome) = some false; rw [hl, hv]; rfl) h

theorem set_map {ns : List Str} {Q : Unit → Shared → Prop} (X : K.In s.heap) (I : ObjM s.heap x dx C mA)
    (hs : PySem.W.findIn K (.ref C) "__setattr__" = some (some (.builtin "object.__setattr__"))) (hp : PySem.W.plainOver K C = true) (ht : PySem.W.takerIn K C name = some none) (hh : PySem.W.hasDictIn K C = true)
    (hw : PySem.Within mA ns) (hsz : ns.length ≤ sizeLine)
    (h : ∀ h', ObjM h' x dx C (fun y => if y = name then some v else mA y) → Heap.SameBut dx s.heap h' → Q () { s with heap := h', toks := s.toks + 2 }) :
    wpAny (model prog w) A (setAttr (.ref x) name v) Q E s := by
  obtain ⟨od, J, hl⟩ := I.look
  refine PySem.W.set_plain X J hs (PySem.W.osa_open (s := { s with toks := s.toks + 1 }) (r := none) X J hp ht fun b => ?_)
  obtain ⟨cd, hc, hd'⟩ := PySem.W.any_some hh
  have hx : s.heap.get? x = some ⟨.ref C, some dx, .plain, #[]⟩ := I.obj
  refine wpAny_bind (wpAny_pure (wpAny_bind (wpAny_bind (wpAny_loadPart hx (wpAny_bind (PySem.W.Looks.here (s := { s with toks := s.toks + 1 }) (PySem.W.looks_clsIn X hc) ?_))))))
  rw [hd']
  refine wpAny_pure (a := some dx) (wpAny_bind (wpAny_pure (wpAny_bind ?_)))
  refine wpAny_nsSet1 (s := { s with toks := s.toks + 1 }) I.ns fun h' hn2 hs2 => ?_
  obtain ⟨oD, esD, epD, hoD, hdD, hcD⟩ := hn2.count (PySem.Within.cons name v hw)
  refine wpAny_bind (wpAny_lookBehind hoD (by rw [hdD]; exact pastItsLine_dict (Nat.le_trans hcD (by rw [List.length_cons]; omega))) ?_)
  exact wpAny_pure (h _ ⟨(hs2.2 _ (Ne.symm I.ne)).trans I.obj, hn2, I.ne⟩ hs2)

/-- C(..): the dict at the heap's end, the instance behind it; then its __init__ -/
theorem make_map {R : Result → Shared → Prop} {vs : List Value} {kw : List (Str × Value)} (X : K.In s.heap) (hm : PySem.W.makesIn K C = true)
    (hi : PySem.W.findIn K (.ref C) "__init__" = some (some (.ref f))) (hf : PySem.W.typeIn K (.ref f) = some (.type "function"))
    (h : codeAny (model prog w) (A.under (.builtin "type.__call__" ⟨.ref C :: vs, kw⟩)) (.call (.ref f) ⟨.ref (s.heap.objs.size + 1) :: vs, kw⟩) (PySem.W.InitBack (s.heap.objs.size + 1) R)
      { s with heap := (s.heap.push PySem.W.emptyDict).push (PySem.W.instObj C s.heap.objs.size) }) :
    codeAny (model prog w) A (.call (.ref C) ⟨vs, kw⟩) R s := by
  obtain ⟨hh, g, d, t, os⟩ := s
  exact PySem.W.make_core (PySem.W.makes_of X hm) (PySem.W.looks_findIn X hi) (fun self => PySem.W.bind_fn X self hf) (.inl rfl) h
/-- C() where there is no __init__ but object's -/
theorem make_map0 {R : Result → Shared → Prop} (X : K.In s.heap) (hm : PySem.W.makesIn K C = true)
    (hi : PySem.W.findIn K (.ref C) "__init__" = some (some (.builtin "object.__init__")))
    (hb : ∀ self, PySem.W.Looks (model prog w) s.heap (bindSpecial (.builtin "object.__init__") self) (.builtin "object.__init__", [self]))
    (h : codeAny (model prog w) (A.under (.builtin "type.__call__" ⟨[.ref C], []⟩)) (.call (.builtin "object.__init__") ⟨[.ref (s.heap.objs.size + 1)], []⟩) (PySem.W.InitBack (s.heap.objs.size + 1) R)
      { s with heap := (s.heap.push PySem.W.emptyDict).push (PySem.W.instObj C s.heap.objs.size) }) :
    codeAny (model prog w) A (.call (.ref C) ⟨[], []⟩) R s := by
  obtain ⟨hh, g, d, t, os⟩ := s
  exact PySem.W.make_core (PySem.W.makes_of X hm) (PySem.W.looks_findIn X hi) hb (.inr ⟨rfl, rfl⟩) h
end

/-! ### the attributes as a list of pairs -/
def putF (f : Str) (v : V) : List (Str × V) → List (Str × V)
  | [] => [(f, v)]
  | (g, x) :: r => if g = f then (g, v) :: r else (g, x) :: putF f v r
theorem lookup_putF (f g : Str) (v : V) : ∀ fs : List (Str × V), (putF f v fs).lookup g = if g = f then some v else fs.lookup g
  | [] => by
    show List.lookup g [(f, v)] = _
    by_cases h : g = f
    · have hb : (g == f) = true := beq_iff_eq.mpr h
      simp only [List.lookup, hb, if_pos h]
    · have hb : (g == f) = false := beq_eq_false_iff_ne.mpr h
      simp only [List.lookup, hb, if_neg h]
  | (k, x) :: r => by
    have ih := lookup_putF f g v r
    rw [show putF f v ((k, x) :: r) = (if k = f then (k, v) :: r else (k, x) :: putF f v r) from rfl]
    by_cases hk : k = f
    · rw [if_pos hk]
      by_cases h : g = k
      · have hb : (g == k) = true := beq_iff_eq.mpr h
        simp only [List.lookup, hb, if_pos (h.trans hk)]
      · have hb : (g == k) = false := beq_eq_false_iff_ne.mpr h
        simp only [List.lookup, hb, if_neg (fun e : g = f => h (e.trans hk.symm))]
    · rw [if_neg hk]
      by_cases h : g = k
      · have hb : (g == k) = true := beq_iff_eq.mpr h
        simp only [List.lookup, hb, if_neg (fun e : g = f => hk (h.symm.trans e))]
      · have hb : (g == k) = false := beq_eq_false_iff_ne.mpr h
        simp only [List.lookup, hb]
        exact ih
theorem keys_putF (f : Str) (v : V) : ∀ fs : List (Str × V), f ∈ (putF f v fs).map (·.1) ∧ ∀ g, g ∈ fs.map (·.1) → g ∈ (putF f v fs).map (·.1)
  | [] => ⟨by simp [putF], fun g h => by simp at h⟩
  | (k, x) :: r => by
    obtain ⟨i1, i2⟩ := keys_putF f v r
    rw [show putF f v ((k, x) :: r) = (if k = f then (k, v) :: r else (k, x) :: putF f v r) from rfl]
    by_cases hk : k = f
    · rw [if_pos hk]
      subst hk
      exact ⟨by simp, fun g h => by simpa using h⟩
    · rw [if_neg hk]
      refine ⟨?_, fun g h => ?_⟩
      · rw [List.map_cons]
        exact List.mem_cons_of_mem _ i1
      · rw [List.map_cons] at h ⊢
        rcases List.mem_cons.mp h with e | e
        · exact List.mem_cons.mpr (.inl e)
        · exact List.mem_cons_of_mem _ (i2 g e)
theorem length_putF (f : Str) (v : V) : ∀ fs : List (Str × V), (putF f v fs).length ≤ fs.length + 1
  | [] => by simp [putF]
  | (k, x) :: r => by
    have ih := length_putF f v r
    rw [show putF f v ((k, x) :: r) = (if k = f then (k, v) :: r else (k, x) :: putF f v r) from rfl]
    by_cases hk : k = f
    · rw [if_pos hk, List.length_cons, List.length_cons]; omega
    · rw [if_neg hk, List.length_cons, List.length_cons]; omega

theorem RelO.some_of {v : V} {o : Option Value} (r : RelO (some v) o) : ∃ u, o = some u ∧ RelV v u := by
  cases o with
  | none => exact (show False from r).elim
  | some u => exact ⟨u, rfl, r⟩
theorem RelO.none_of {o : Option Value} (r : RelO none o) : o = none := by
  cases o with
  | none => rfl
  | some u => exact (show False from r).elim
theorem handed_of {v : V} {u : Value} (r : RelV v u) : PySem.W.handedIn u = true := by
  cases v with
  | non => cases (show u = Value.none from r); rfl
  | bl b => cases (show u = Value.bool b from r); rfl
  | int i => obtain ⟨t, e⟩ := (show ∃ t, u = Value.int i t from r); cases e; rfl
  | str x => obtain ⟨t, e⟩ := (show ∃ t, u = Value.str x t from r); cases e; rfl
  | byt b => obtain ⟨t, e⟩ := (show ∃ t, u = Value.bytes b t from r); cases e; rfl
  | flt b => obtain ⟨t, e⟩ := (show ∃ t, u = Value.float b t from r); cases e; rfl
  | ref a => cases (show u = Value.ref a from r); rfl
  | ty n => cases (show u = Value.type n from r); rfl

section
variable {P : Program} {w : World} {H H' : Hp} {h h' : Heap} {a C dx : Addr} {fs fs' : List (Str × V)}
theorem ins_get (hok : HOk P w H h) (e : H a = some (.ins C dx fs)) : ∃ mA, ObjM h a dx C mA ∧ (∀ f, RelO (fs.lookup f) (mA f)) ∧ PySem.Within mA (fs.map (·.1)) ∧ fs.length ≤ 1000 ∧ H dx = some (.own a) := by
  obtain ⟨d, z, ne, ob, mA, n, r, q⟩ := (show ObjOk P w H h a (.ins C dx fs) from hok a _ e)
  exact ⟨mA, ⟨ob, n, ne⟩, r, q, z, d⟩
end

/-! ### what of the text a class must have -/
structure Cls (K : PySem.W.Frag) (C : Addr) : Prop where
  pg : PySem.W.plainGet K C Str.empty = true
  hd : PySem.W.hasDictIn K C = true
  po : PySem.W.plainOver K C = true
  sa : PySem.W.findIn K (.ref C) "__setattr__" = some (some (.builtin "object.__setattr__"))
theorem Cls.get {K : PySem.W.Frag} {C : Addr} (c : Cls K C) (f : Str) : PySem.W.plainGet K C f = true := c.pg
/-- no class of it has the name -/
def NoAttr (K : PySem.W.Frag) (C : Addr) (f : Str) : Prop := PySem.W.findIn K (.ref C) f = some none
theorem NoAttr.taker {K : PySem.W.Frag} {C : Addr} {f : Str} (n : NoAttr K C f) : PySem.W.takerIn K C f = some none := by
  unfold PySem.W.takerIn
  rw [show PySem.W.findIn K (.ref C) f = some none from n]
  rfl
/-- a constant of the class -/
structure Con (K : PySem.W.Frag) (C : Addr) (f : Str) (v : V) (u : Value) : Prop where
  at_ : PySem.W.findIn K (.ref C) f = some (some u)
  rel : RelV v u
  get : PySem.W.specialIn K u "__get__" = some none
  cp : PySem.W.copiedNames.contains f = false
/-- a method: a plain def of the class or of one above it -/
structure Meth (K : PySem.W.Frag) (C : Addr) (m : Str) (f : Addr) : Prop where
  at_ : PySem.W.findIn K (.ref C) m = some (some (.ref f))
  fn : PySem.W.isFn K (.ref f) = true
  kp : PySem.W.keepIn K (.ref f) = true

section
variable {X : Cx} {pins : List (Addr × Obj)} {σ : St} {H : Hp} {s : Shared} {a C dx : Addr} {fs : List (Str × V)} {f : Str} {v : V} {A : Around} {E : Value → Shared → Prop}

theorem getattr_ok {b : Bool} {Q : Value → Shared → Prop} (I : Inv X pins σ H s) (e : H a = some (.ins C dx fs)) (c : Cls X.K C) (n : NoAttr X.K C f) (l : fs.lookup f = some v)
    (h : ∀ u s', Inv X pins σ H s' → RelV v u → Q u s') : wpAny (model X.prog X.w) A (getAttr (.ref a) f b) Q E s := by
  obtain ⟨mA, O, r, _, _, _⟩ := ins_get I.hok e
  obtain ⟨u, hu, ru⟩ := RelO.some_of (v := v) (o := mA f) (by rw [← l]; exact r f)
  exact get_map I.kIn O (c.get f) c.hd n hu (handed_of ru) (h u _ (I.tok _) ru)

theorem getcon_ok {b : Bool} {u : Value} {Q : Value → Shared → Prop} (I : Inv X pins σ H s) (e : H a = some (.ins C dx fs)) (c : Cls X.K C) (k : Con X.K C f v u) (l : fs.lookup f = none)
    (h : ∀ s', Inv X pins σ H s' → Q u s') : wpAny (model X.prog X.w) A (getAttr (.ref a) f b) Q E s := by
  obtain ⟨mA, O, r, _, _, _⟩ := ins_get I.hok e
  have hn : mA f = none := RelO.none_of (by rw [← l]; exact r f)
  exact get_const I.kIn O (c.get f) c.hd k.at_ k.get k.cp hn (handed_of k.rel) (h _ (I.tok _))

theorem getmeth_ok {m : Str} {g : Addr} {pl : Sem Bool} {Q : Value × List Value → Shared → Prop} (I : Inv X pins σ H s) (e : H a = some (.ins C dx fs)) (c : Cls X.K C) (k : Meth X.K C m g) (l : fs.lookup m = none)
    (h : Q (.ref g, [.ref a]) s) : wpAny (model X.prog X.w) A (getMethod (.ref a) m pl) Q E s := by
  obtain ⟨mA, O, r, _, _, _⟩ := ins_get I.hok e
  have hn : mA m = none := RelO.none_of (by rw [← l]; exact r m)
  exact get_meth I.kIn O (c.get m) k.at_ k.fn hn h

theorem setattr_ok {y : V} {u : Value} {Q : Unit → Shared → Prop} (I : Inv X pins σ H s) (e : H a = some (.ins C dx fs)) (c : Cls X.K C) (n : NoAttr X.K C f) (hl : fs.length < 1000) (ry : RelV y u)
    (h : ∀ s', Inv X pins σ (upd H a (.ins C dx (putF f y fs))) s' → Q () s') : wpAny (model X.prog X.w) A (setAttr (.ref a) f u) Q E s := by
  obtain ⟨mA, O, r, wi, _, ho⟩ := ins_get I.hok e
  have hz : (fs.map (·.1)).length ≤ sizeLine := by rw [List.length_map, sizeLine_eq]; omega
  refine set_map I.kIn O c.sa c.po n.taker c.hd wi hz fun h' O' sb => h _ ?_
  have hd : ∃ o, h'.get? dx = some o := let ⟨o, _, _, e', _⟩ := O'.ns; ⟨o, e'⟩
  refine I.write (x := a) (e := dx) (by rw [e]; exact True.intro) (.inr ho) (fun b q hb z => (sb.2 b hb).trans z) hd ?_
  refine ⟨by rw [upd_ne O.ne]; exact ho, ?_, O.ne, O'.obj, _, O'.ns, fun g => ?_, fun g hg => ?_⟩
  · have := length_putF f y fs; omega
  · show RelO ((putF f y fs).lookup g) (if g = f then some u else mA g)
    rw [lookup_putF]
    by_cases q : g = f
    · rw [if_pos q, if_pos q]; exact ry
    · rw [if_neg q, if_neg q]; exact r g
  · by_cases q : g = f
    · rw [q]; exact (keys_putF f y fs).1
    · refine (keys_putF f y fs).2 g (wi g fun z => hg ?_)
      show (if g = f then some u else mA g) = none
      rw [if_neg q]; exact z

/-- a new instance, tracked, without attributes -/
theorem Inv.made (I : Inv X pins σ H s) : Inv X pins σ (upd (upd H s.heap.objs.size (.own (s.heap.objs.size + 1))) (s.heap.objs.size + 1) (.ins C s.heap.objs.size []))
    { s with heap := (s.heap.push PySem.W.emptyDict).push (PySem.W.instObj C s.heap.objs.size) } := by
  have e1 : (s.heap.push PySem.W.emptyDict).get? s.heap.objs.size = some PySem.W.emptyDict := Heap.get?_push_size s.heap rfl
  have e2 : ((s.heap.push PySem.W.emptyDict).push (PySem.W.instObj C s.heap.objs.size)).get? (s.heap.objs.size + 1) = some (PySem.W.instObj C s.heap.objs.size) := by
    have := Heap.get?_push_size (s.heap.push PySem.W.emptyDict) (o := PySem.W.instObj C s.heap.objs.size) rfl
    rwa [Heap.size_push] at this
  have e3 : (s.heap.push PySem.W.emptyDict).Ns s.heap.objs.size (fun _ => none) := ⟨PySem.W.emptyDict, #[], _, e1, rfl, (fun e he => absurd he (by simp)), fun _ => rfl⟩
  have I1 := I.laid (a := s.heap.objs.size) (o := .own (s.heap.objs.size + 1)) (h' := s.heap.push PySem.W.emptyDict) (t' := s.toks) (fun b u q => Heap.get?_push_of_some _ q) (Nat.le_refl _) ⟨_, e1⟩
  refine I1.laid (a := s.heap.objs.size + 1) (o := .ins C s.heap.objs.size []) (t' := s.toks) (fun b u q => Heap.get?_push_of_some _ q) (Nat.le_of_eq (Heap.size_push _ _)) ?_
  have ne : s.heap.objs.size ≠ s.heap.objs.size + 1 := Nat.ne_of_lt (Nat.lt_succ_self _)
  refine ⟨by rw [upd_ne ne, upd_same], Nat.zero_le _, ne, e2, fun _ => none, (Heap.Ns1.of_empty e3).at fun o q => Heap.get?_push_of_some _ q, fun _ => True.intro, fun y hy => absurd rfl hy⟩

/-- e.f where nothing but the object is asked: through attributeBase (super) and the last hold -/
theorem attr_of {prog : Program} {w : World} {env : Env} {e : Expr} {f : Str} {pos : Pos} {s : Shared} {Q : Value → Shared → Prop} (hb : attributeBase e f env (eval e env) = eval e env)
    (h : wpAny (model prog w) A (eval e env) (fun o s₁ => wpAny (model prog w) A (getAttr o f true) Q E s₁) E s) : wpAny (model prog w) A (eval (.Attribute e f pos) env) Q E s :=
  Attribute_any_ h (by rw [arm_eval_Attribute, hb])
end

/-! ### readings and rules -/
/-- e.f, an attribute of the instance -/
def tFld (K : PySem.W.Frag) (ta : TE) (f : Str) : TE := fun σ H Q => ta σ H fun x H1 => ∃ a C dx fs v, x = .ref a ∧ H1 a = some (.ins C dx fs) ∧ Cls K C ∧ NoAttr K C f ∧ fs.lookup f = some v ∧ Q v H1
/-- e.f, a constant of the class -/
def tCon (K : PySem.W.Frag) (ta : TE) (f : Str) : TE := fun σ H Q => ta σ H fun x H1 => ∃ a C dx fs v u, x = .ref a ∧ H1 a = some (.ins C dx fs) ∧ Cls K C ∧ Con K C f v u ∧ fs.lookup f = none ∧ Q v H1
/-- e.f = value -/
def sFld (K : PySem.W.Frag) (ta tv : TE) (f : Str) : TS := fun D σ H => tv σ H fun y H1 => ta σ H1 fun x H2 => ∃ a C dx fs, x = .ref a ∧ H2 a = some (.ins C dx fs) ∧ Cls K C ∧ NoAttr K C f ∧ fs.length < 1000 ∧
  D.nx σ (upd H2 a (.ins C dx (putF f y fs)))
/-- an augmented operator on two values -/
def InOp (X : Cx) (op : Operator) (rd : V → V → Hp → VK → Prop) : Prop :=
  ∀ (pins : List (Addr × Obj)) (s : Shared) (σ : St) (H : Hp) (x y : V) (u v : Value) (Q : VK), Inv X pins σ H s → RelV x u → RelV y v → rd x y H Q → wpAny (model X.prog X.w) X.A (inplaceOp op u v) (EP X pins σ Q) X.xe s
/-- e.f op= value -/
def sFldAug (K : PySem.W.Frag) (ta tv : TE) (rd : V → V → Hp → VK → Prop) (f : Str) : TS := fun D σ H => ta σ H fun x H1 => ∃ a C dx fs v, x = .ref a ∧ H1 a = some (.ins C dx fs) ∧ Cls K C ∧ NoAttr K C f ∧ fs.lookup f = some v ∧
  tv σ H1 fun y H2 => rd v y H2 fun z H3 => ∃ dx' fs', H3 a = some (.ins C dx' fs') ∧ fs'.length < 1000 ∧ D.nx σ (upd H3 a (.ins C dx' (putF f z fs')))

section
variable {X : Cx} {o e value : Expr} {f : Str} {pos pos' tpos : Pos} {ta tv : TE}
theorem pe_fld (he : PE X e ta) (hb : attributeBase e f X.env (eval e X.env) = eval e X.env) : PE X (.Attribute e f pos) (tFld X.K ta f) := by
  intro pins s σ H Q I h
  refine attr_of hb (thn (he pins s σ H _ I h) fun u s1 ⟨x, H1, I1, rx, a, C, dx, fs, v, ex, ea, c, n, l, q⟩ => ?_)
  subst ex
  obtain rfl : u = Value.ref a := rx
  exact getattr_ok I1 ea c n l fun u' s2 I2 ru => ⟨v, H1, I2, ru, q⟩
theorem pe_con (he : PE X e ta) (hb : attributeBase e f X.env (eval e X.env) = eval e X.env) : PE X (.Attribute e f pos) (tCon X.K ta f) := by
  intro pins s σ H Q I h
  refine attr_of hb (thn (he pins s σ H _ I h) fun u s1 ⟨x, H1, I1, rx, a, C, dx, fs, v, u0, ex, ea, c, k, l, q⟩ => ?_)
  subst ex
  obtain rfl : u = Value.ref a := rx
  exact getcon_ok I1 ea c k l fun s2 I2 => ⟨v, H1, I2, k.rel, q⟩
theorem ps_fld (ha : PE X o ta) (hv : PE X value tv) (hs : swapsWith value (some (.Attribute o f pos')) pos.line X.env = pure false) : PS X (.Assign [.Attribute o f pos'] value pos) (sFld X.K ta tv f) := by
  intro pins s σ H D I h
  refine plainObj_wpAny_Assign_Attribute (thn (hv pins s σ H _ I h) fun u s1 ⟨y, H1, I1, ry, q⟩ => thn (ha pins s1 σ H1 _ I1 q) fun ov s2 ⟨x, H2, I2, rx, a, C, dx, fs, ex, ea, c, n, l, q2⟩ => ?_) hs
  subst ex
  obtain rfl : ov = Value.ref a := rx
  exact setattr_ok I2 ea c n l ry fun s3 I3 => ⟨σ, _, I3, q2⟩
theorem ps_fldaug {op : Operator} {rd : V → V → Hp → VK → Prop} (ha : PE X o ta) (hv : PE X value tv) (hop : InOp X op rd) : PS X (.AugAssign (.Attribute o f tpos) op value pos) (sFldAug X.K ta tv rd f) := by
  intro pins s σ H D I h
  refine wpAny_AugAssign_AttributeAny (thn (ha pins s σ H _ I h) fun ov s1 ⟨x, H1, I1, rx, a, C, dx, fs, v, ex, ea, c, n, l, q⟩ => ?_)
  subst ex
  obtain rfl : ov = Value.ref a := rx
  refine getattr_ok I1 ea c n l fun u s2 I2 ru => thn (hv pins s2 σ H1 _ I2 q) fun w3 s3 ⟨y, H2, I3, ry, q3⟩ => thn (hop pins s3 σ H2 v y u w3 _ I3 ru ry q3) fun w4 s4 ⟨z, H3, I4, rz, dx', fs', ea', l', q4⟩ => ?_
  exact setattr_ok I4 ea' c n l' rz fun s5 I5 => ⟨σ, _, I5, q4⟩
def rAdd : V → V → Hp → VK → Prop := fun x y H Q => ∃ i j, x = .int i ∧ y = .int j ∧ Q (.int (i + j)) H
def rSub : V → V → Hp → VK → Prop := fun x y H Q => ∃ i j, x = .int i ∧ y = .int j ∧ Q (.int (i - j)) H
theorem in_add : InOp X .Add rAdd := by
  rintro pins s σ H x y u v Q I rx ry ⟨i, j, rfl, rfl, q⟩
  obtain ⟨t, rfl⟩ := (show ∃ t, u = Value.int i t from rx)
  obtain ⟨t', rfl⟩ := (show ∃ t', v = Value.int j t' from ry)
  exact PyProof.Rows.iadd_int ⟨.int (i + j), H, I.tok _, ⟨_, rfl⟩, q⟩
theorem in_sub : InOp X .Sub rSub := by
  rintro pins s σ H x y u v Q I rx ry ⟨i, j, rfl, rfl, q⟩
  obtain ⟨t, rfl⟩ := (show ∃ t, u = Value.int i t from rx)
  obtain ⟨t', rfl⟩ := (show ∃ t', v = Value.int j t' from ry)
  exact PyProof.Rows.isub_int ⟨.int (i - j), H, I.tok _, ⟨_, rfl⟩, q⟩

/-- what is between an instance and its method: the tree of a method call -/
theorem methcall_of {pl : Sem Bool} {m : Str} {apos : Pos} {args : List Expr} {pins : List (Addr × Obj)} {s : Shared} {σ : St} {H : Hp} {Q : Value → Shared → Prop} {te : TE} (he : PE X e te) (I : Inv X pins σ H s)
    (h : te σ H fun x H1 => ∃ a C dx fs g, x = .ref a ∧ H1 a = some (.ins C dx fs) ∧ Cls X.K C ∧ Meth X.K C m g ∧ fs.lookup m = none ∧
      ∀ s1, Inv X pins σ H1 s1 → wpAny (model X.prog X.w) X.A (callWith pos (.ref g) [.ref a] (backTo pos (starEach args X.env)) (backToKw pos (keywordEach [] X.env))) Q X.xe s1)
    (ht : eval (.Call (.Attribute e m apos) args [] pos) X.env = (do
      let ov ← eval e X.env
      standAt apos.atName
      let (f, first) ← holding [ov] (getMethod ov m pl)
      callWith pos f first (backTo pos (starEach args X.env)) (backToKw pos (keywordEach [] X.env)))) :
    wpAny (model X.prog X.w) X.A (eval (.Call (.Attribute e m apos) args [] pos) X.env) Q X.xe s := by
  refine PySem.W.methodCall_KW (pl := pl) (thn (he pins s σ H _ I h) fun u s1 ⟨x, H1, I1, rx, a, C, dx, fs, g, ex, ea, c, k, l, q⟩ => ?_) ht
  subst ex
  obtain rfl : u = Value.ref a := rx
  exact getmeth_ok I1 ea c k l (q s1 I1)
end

/-! ### isinstance -/
section
variable {X : Cx} {pins : List (Addr × Obj)} {σ : St} {H : Hp} {s : Shared} {A : Around} {E : Value → Shared → Prop} {Q : Value → Shared → Prop} {c : Value} {b : Bool}
/-- the type of a value, as the fragment's deciders take it; for an instance its class -/
inductive TyOf (K : PySem.W.Frag) (H : Hp) : V → Value → Prop where
  | non : TyOf K H .non (.type "NoneType")
  | bl (x : Bool) : TyOf K H (.bl x) (.type "bool")
  | int (i : Int) : TyOf K H (.int i) (.type "int")
  | str (x : Str) : TyOf K H (.str x) (.type "str")
  | flt (x : UInt64) : TyOf K H (.flt x) (.type "float")
  | lst {a : Addr} {xs : List V} (e : H a = some (.lst xs)) : TyOf K H (.ref a) (.type "list")
  | frz {a : Addr} {o : Obj} {xs : List V} (e : H a = some (.frz o (.lst xs))) : TyOf K H (.ref a) (.type "list")
  | tup {a : Addr} {xs : List V} (e : H a = some (.tup xs)) : TyOf K H (.ref a) (.type "tuple")
  | dK {a : Addr} {kvs : List (Key × V)} (e : H a = some (.dK kvs)) : TyOf K H (.ref a) (.type "dict")
  | dT {a : Addr} {kvs : List (List Key × V)} (e : H a = some (.dT kvs)) : TyOf K H (.ref a) (.type "dict")
  | ins {a C dx : Addr} {fs : List (Str × V)} (e : H a = some (.ins C dx fs)) (cl : Cls K C) (ha : PySem.W.findIn K (.ref C) "__class__" = some (some (.builtin "object.__class__")))
      (hn : PySem.W.specialIn K (.builtin "object.__class__") "__get__" = some (some (.builtin "getset_descriptor.__get__"))) (htk : PySem.W.takesIn K (.builtin "object.__class__") = some true)
      (hm : PySem.W.mroIn K C (.type "object") = some true) : TyOf K H (.ref a) (.ref C)
/-- isinstance(x, c) for one class c, a built-in or an own one: kitOne's answer -/
theorem isinst_ok {x : V} {u t : Value} (I : Inv X pins σ H s) (rx : RelV x u) (ty : TyOf X.K H x t) (e : PySem.W.kitOne X.K t c = some b) (h : ∀ tk, Q (.bool b) { s with toks := tk }) :
    wpAny (model X.prog X.w) A (call (.builtin "isinstance") [u, c]) Q E s := by
  cases ty with
  | non => cases (show u = Value.none from rx); exact PySem.W.kia_one PySem.W.kitx_none I.kIn True.intro e (fun z => nomatch z) h
  | bl y => cases (show u = Value.bool y from rx); exact PySem.W.kia_one PySem.W.kitx_bool I.kIn True.intro e (fun z => nomatch z) h
  | int i => obtain ⟨t, q⟩ := (show ∃ t, u = Value.int i t from rx); cases q; exact PySem.W.kia_one PySem.W.kitx_int I.kIn True.intro e (fun z => nomatch z) h
  | str y => obtain ⟨t, q⟩ := (show ∃ t, u = Value.str y t from rx); cases q; exact PySem.W.kia_one PySem.W.kitx_str I.kIn True.intro e (fun z => nomatch z) h
  | flt y => obtain ⟨t, q⟩ := (show ∃ t, u = Value.float y t from rx); cases q; exact PySem.W.kia_one PySem.W.kitx_float I.kIn True.intro e (fun z => nomatch z) h
  | @lst a xs ea =>
    cases (show u = Value.ref a from rx)
    obtain ⟨_, _, n, _, h1⟩ := (show ObjOk X.prog X.w H s.heap a (.lst xs) from I.hok a _ ea)
    exact PySem.W.kia_one PySem.W.kitx_list I.kIn ⟨_, h1, rfl⟩ e (fun z => nomatch z) h
  | @frz a ob xs ea =>
    cases (show u = Value.ref a from rx)
    obtain ⟨_, _, _, n, _, h1⟩ := (show ObjOk X.prog X.w H s.heap a (.frz ob (.lst xs)) from I.hok a _ ea)
    exact PySem.W.kia_one PySem.W.kitx_list I.kIn ⟨_, h1, rfl⟩ e (fun z => nomatch z) h
  | @tup a xs ea =>
    cases (show u = Value.ref a from rx)
    obtain ⟨_, _, _, p⟩ := (show ObjOk X.prog X.w H s.heap a (.tup xs) from I.hok a _ ea)
    obtain ⟨o, h1, h2, _⟩ := p
    exact PySem.W.kia_one PySem.W.kitx_tuple I.kIn ⟨o, h1, h2⟩ e (fun z => nomatch z) h
  | @dK a kvs ea =>
    cases (show u = Value.ref a from rx)
    obtain ⟨_, _, vs, _, p⟩ := (show ObjOk X.prog X.w H s.heap a (.dK kvs) from I.hok a _ ea)
    obtain ⟨o, es, ep, h1, h2, _⟩ := p
    exact PySem.W.kia_one PySem.W.kitx_dict I.kIn ⟨o, h1, h2.1⟩ e (fun z => nomatch z) h
  | @dT a kvs ea =>
    cases (show u = Value.ref a from rx)
    obtain ⟨_, _, xs, _, o, es, ep, h1, h2, _⟩ := (show ObjOk X.prog X.w H s.heap a (.dT kvs) from I.hok a _ ea)
    exact PySem.W.kia_one PySem.W.kitx_dict I.kIn ⟨o, h1, h2.1⟩ e (fun z => nomatch z) h
  | @ins a C dx fs ea cl ha hn htk hm =>
    cases (show u = Value.ref a from rx)
    obtain ⟨mA, O, _⟩ := ins_get I.hok ea
    obtain ⟨od, J, _⟩ := O.look
    exact PySem.W.kia_one (PySem.W.kitx_own (cl.get _) cl.hd ha hn htk hm) I.kIn J e (fun z => nomatch z) h
end
end L2

namespace L2
open PySem PySem.Spec PyProof.Rows

/-! ### room -/
structure Room (k : Nat) (A : Around) : Prop where
  hd : A.handled = none
  dp : A.depth + 3 * k + 5 < recursionLimit
  un : A.units + 16 * k + 200 < cLine
theorem Room.mono {j k : Nat} {A : Around} (r : Room k A) (h : j ≤ k) : Room j A := ⟨r.hd, by have := r.dp; omega, by have := r.un; omega⟩
theorem Room.deeper {k : Nat} {A : Around} (r : Room (k + 1) A) (env : Env) : Room k (A.deeper env) :=
  ⟨r.hd, by have := r.dp; show A.depth + 1 + 3 * k + 5 < _; omega, by have := r.un; show A.units + 3 + 16 * k + 200 < _; omega⟩
theorem Room.in1 {k : Nat} {A : Around} (r : Room (k + 1) A) : Room k A.in1 :=
  ⟨r.hd, by have := r.dp; show A.depth + 3 * k + 5 < _; omega, by have := r.un; show A.units + 1 + 16 * k + 200 < _; omega⟩
theorem make_depth {A : Around} {C : Addr} {us : List Value} {kw : List (Str × Value)} : (A.under (.builtin "type.__call__" ⟨.ref C :: us, kw⟩)).depth = A.depth + 1 := by
  first | rfl | simp [Around.under, Code.weight, Code.isCreation, Code.isGuard, Code.isCaller, Code.frames, Code.isFrame, guardIds]
theorem make_units {A : Around} {C : Addr} {us : List Value} {kw : List (Str × Value)} : (A.under (.builtin "type.__call__" ⟨.ref C :: us, kw⟩)).units = A.units + 1 := by
  first | rfl | simp [Around.under, Code.cUnits, Code.frames, Code.isFrame]
theorem Room.make {k : Nat} {A : Around} (r : Room (k + 1) A) (C : Addr) (us : List Value) (kw : List (Str × Value)) : Room k (A.under (.builtin "type.__call__" ⟨.ref C :: us, kw⟩)) :=
  ⟨r.hd, by have := r.dp; rw [make_depth]; omega, by have := r.un; rw [make_units]; omega⟩
theorem Room.depth {k : Nat} {A : Around} (r : Room k A) : A.depth < recursionLimit := by have := r.dp; omega
theorem Room.units {k : Nat} {A : Around} (r : Room k A) : A.units + 64 < cLine := by have := r.un; omega
theorem Room.units0 {k : Nat} {A : Around} (r : Room k A) : A.units < cLine := by have := r.un; omega

/-! ### argument lists and displays -/
def tNil : TA := fun _ H Q => Q [] H
def tCons (ta : TE) (tr : TA) : TA := fun σ H Q => ta σ H fun x H1 => tr σ H1 fun xs H2 => Q (x :: xs) H2
section
variable {X : Cx} {e : Expr} {es : List Expr} {te : TE} {t : TA} {pos : Pos}
theorem pa_nil : PA X [] tNil := fun _ _ _ _ H Q I h => Calls.spliced_nil ⟨[], H, I, .nil, h⟩
theorem pa_cons (ha : PE X e te) (hr : PA X es t) (hs : starEach (e :: es) X.env = (false, eval e X.env) :: starEach es X.env := by rfl) : PA X (e :: es) (tCons te t) := by
  intro pos pins s σ H Q I h
  rw [hs]
  show wpAny _ _ (spliced ((false, eval e X.env) :: backTo pos (starEach es X.env))) _ _ s
  refine Calls.spliced_cons (thn (ha pins s σ H _ I h) fun u s1 ⟨x, H1, I1, r1, q1⟩ => ?_)
  exact thn (hr pos pins s1 σ H1 _ I1 q1) fun us s2 ⟨xs, H2, I2, r2, q2⟩ => ⟨x :: xs, H2, I2, .cons r1 r2, q2⟩

/-- a tuple, a list of written items -/
def tTup (t : TA) : TE := fun σ H Q => t σ H fun xs H1 => xs.length ≤ sizeLine ∧ ∀ p, H1 p = none → Q (.ref p) (upd H1 p (.tup xs))
def tLst (t : TA) : TE := fun σ H Q => t σ H fun xs H1 => xs.length ≤ sizeLine ∧ ∀ p, H1 p = none → Q (.ref p) (upd H1 p (.lst xs))
theorem pe_tup {x1} (h : PA X es t) : PE X (.Tuple es x1 pos) (tTup t) := by
  intro pins s σ H Q I hq
  refine wpAny_Tuple_spliced (thn (h pos pins s σ H _ I hq) fun us s1 ⟨xs, H1, I1, r, z, q⟩ => ⟨by rw [← r.length]; exact z, ?_⟩)
  have hf : H1 s1.heap.objs.size = none := I1.hok.fresh (Nat.le_refl _)
  refine ⟨.ref s1.heap.objs.size, upd H1 s1.heap.objs.size (.tup xs), I1.laid (t' := s1.toks) (fun b u e => Heap.get?_push_of_some _ e) (Nat.le_refl _) ?_, rfl, q _ hf⟩
  exact ⟨z, us, r, ⟨_, Heap.get?_push_size _ rfl, rfl, _, rfl⟩⟩
theorem pe_lst (h : PA X es t) : PE X (.List es pos) (tLst t) := by
  intro pins s σ H Q I hq
  refine wpAny_List_spliced (thn (h pos pins s σ H _ I hq) fun us s1 ⟨xs, H1, I1, r, z, q⟩ => ⟨by rw [← r.length]; exact z, ?_⟩)
  have hf : H1 s1.heap.objs.size = none := I1.hok.fresh (Nat.le_refl _)
  refine ⟨.ref s1.heap.objs.size, upd H1 s1.heap.objs.size (.lst xs), I1.laid (t' := s1.toks) (fun b u e => Heap.get?_push_of_some _ e) (Nat.le_refl _) ?_, rfl, q _ hf⟩
  exact ⟨z, us, 0, r, Heap.get?_push_size _ rfl⟩
end

/-! ### what a def promises -/
/-- a def's promise: the bound arguments in the parameters' order, the heap, the wanted end, the wanted exception -/
abbrev Sp := List V → Hp → VK → XK → Prop
/-- how an exception lies behind a call (file 08 gives it): the callers' frames, abstract heap and state ahead of the call, the wish, the exception, the state -/
abbrev CXT := List Env → Hp → Shared → XK → Value → Shared → Prop

/-- the state at a call -/
structure Env0 (P : Program) (w : World) (K : PySem.W.Frag) (mg : Str → Option Value) (base : Heap) (A : Around) (outer : List Env) (s : Shared) (H : Hp) : Prop where
  frames : A.frames = some outer
  mod : Mod K mg base
  bs : ∀ b o, base.get? b = some o → s.heap.get? b = some o ∧ H b = none
  bsz : base.objs.size ≤ s.heap.objs.size
  funs : s.heap.FunFrames base outer
  frf : ∀ b ∈ frs outer, H b = none
  hok : HOk P w H s.heap
  bare : AllBare s.gens
/-- a call's end -/
def CE (outer : List Env) (P : Program) (w : World) (H : Hp) (s : Shared) (Q : VK) (u : Value) (s' : Shared) : Prop :=
  ∃ v H', s'.os = s.os ∧ AllBare s'.gens ∧ Un (frs outer) [] H H' s.heap s'.heap ∧ HOk P w H' s'.heap ∧ RelV v u ∧ Q v H'
def CR (CX : CXT) (outer : List Env) (P : Program) (w : World) (H : Hp) (s : Shared) (Q : VK) (E : XK) (r : Result) (s' : Shared) : Prop :=
  match r with
  | .ok (.ret u) => CE outer P w H s Q u s'
  | .ok _ => False
  | .error e => CX outer H s E e s'
structure FnOk (P : Program) (w : World) (K : PySem.W.Frag) (mg : Str → Option Value) (base : Heap) (CX : CXT) (k : Nat) (f : Addr) (fd : FuncData) (ps : List Str) (sp : Sp) : Prop where
  len : ∀ vs H Q E, sp vs H Q E → vs.length = ps.length
  run : ∀ (A : Around) (outer : List Env) (s : Shared) (H : Hp) (args : Args) (us : List Value) (vs : List V) (Q : VK) (E : XK), Room k A → Env0 P w K mg base A outer s H → BindsTo s fd args (ps.zip us) → Vals vs us → sp vs H Q E →
    codeAny (model P w) A (.call (.ref f) args) (CR CX outer P w H s Q E) s
theorem FnOk.mono {P : Program} {w : World} {K : PySem.W.Frag} {mg : Str → Option Value} {base : Heap} {CX : CXT} {j k : Nat} {f : Addr} {fd : FuncData} {ps : List Str} {sp : Sp} (F : FnOk P w K mg base CX j f fd ps sp) (h : j ≤ k) :
    FnOk P w K mg base CX k f fd ps sp := ⟨F.len, fun A outer s H args us vs Q E hr => F.run A outer s H args us vs Q E (hr.mono h)⟩
/-- a weaker promise -/
theorem FnOk.imp {P : Program} {w : World} {K : PySem.W.Frag} {mg : Str → Option Value} {base : Heap} {CX : CXT} {k : Nat} {f : Addr} {fd : FuncData} {ps : List Str} {sp sp' : Sp} (F : FnOk P w K mg base CX k f fd ps sp)
    (h : ∀ vs H Q E, sp' vs H Q E → sp vs H Q E) : FnOk P w K mg base CX k f fd ps sp' :=
  ⟨fun vs H Q E q => F.len vs H Q E (h _ _ _ _ q), fun A outer s H args us vs Q E hr he hb hv hs => F.run A outer s H args us vs Q E hr he hb hv (h _ _ _ _ hs)⟩

theorem Env0.make {P : Program} {w : World} {K : PySem.W.Frag} {mg : Str → Option Value} {base : Heap} {A : Around} {outer : List Env} {s : Shared} {H : Hp} (e : Env0 P w K mg base A outer s H) (C : Addr) (us : List Value) (kw : List (Str × Value)) :
    Env0 P w K mg base (A.under (.builtin "type.__call__" ⟨.ref C :: us, kw⟩)) outer s H := ⟨by first | exact e.frames | (simpa [Around.under, Code.envs, Code.isFrame, pushEnvs] using e.frames), e.mod, e.bs, e.bsz, e.funs, e.frf, e.hok, e.bare⟩
theorem Env0.in1 {P : Program} {w : World} {K : PySem.W.Frag} {mg : Str → Option Value} {base : Heap} {A : Around} {outer : List Env} {s : Shared} {H : Hp} (e : Env0 P w K mg base A outer s H) :
    Env0 P w K mg base A.in1 outer s H := ⟨e.frames, e.mod, e.bs, e.bsz, e.funs, e.frf, e.hok, e.bare⟩

section
variable {X : Cx} {pins : List (Addr × Obj)} {σ : St} {H : Hp} {s s' : Shared}
/-- from a body: what a callee wants -/
theorem Inv.env0 (I : Inv X pins σ H s) : Env0 X.prog X.w X.K X.mg X.base X.A X.stack s H :=
  ⟨I.ok.frames, I.ok.mod, I.bs, Nat.le_trans I.ok.bsz I.sz, I.stack, I.stkFree, I.hok, I.bare⟩
/-- behind a call -/
theorem Inv.after {Q : VK} {u : Value} (I : Inv X pins σ H s) (h : CE X.stack X.prog X.w H s Q u s') : EP X pins σ Q u s' := by
  obtain ⟨v, H', os, bare, un, hok, r, q⟩ := h
  obtain ⟨hh, g, d, t, os'⟩ := s'
  obtain rfl : os' = s.os := os
  exact ⟨v, H', I.call (h' := hh) (g' := g) (d' := d) (t' := t) (ch := []) un hok bare (fun b z => absurd z (by simp)), r, q⟩
end

/-! ### calls -/
/-- f(..): the written arguments, then the defaults dvs; E: what is wanted of an exception -/
def tCall (sp : Sp) (dvs : List V) (E : XK) (t : TA) : TE := fun σ H Q => t σ H fun vs H1 => sp (vs ++ dvs) H1 Q E
/-- o.m(..) of an instance of the class at C -/
def tMeth (C : Addr) (m : Str) (sp : Sp) (dvs : List V) (E : XK) (ta : TE) (t : TA) : TE := fun σ H Q => ta σ H fun x H1 => ∃ a dx fs, x = .ref a ∧ H1 a = some (.ins C dx fs) ∧ fs.lookup m = none ∧
  t σ H1 fun vs H2 => sp (x :: (vs ++ dvs)) H2 Q E
/-- C(..): a new instance and its dict, then __init__ -/
def tMake (C : Addr) (sp : Sp) (dvs : List V) (E : XK) (t : TA) : TE := fun σ H Q => t σ H fun vs H1 => ∀ x dx, H1 x = none → H1 dx = none → dx ≠ x →
  sp (.ref x :: (vs ++ dvs)) (upd (upd H1 dx (.own x)) x (.ins C dx [])) (fun v H2 => v = .non ∧ Q (.ref x) H2) E

/-- how the parameters are bound: us the positional arguments, kw the keywords' values by name, ds the defaults that fill up -/
def Binds (K : PySem.W.Frag) (fd : FuncData) (ps : List Str) (ds : List Value) : Prop :=
  ∀ (s : Shared) (us : List Value), K.In s.heap → (us ++ ds).length = ps.length → BindsTo s fd ⟨us, []⟩ (ps.zip (us ++ ds))
/-- every parameter is given -/
theorem Binds.all {K : PySem.W.Frag} {fd : FuncData} {ps : List Str} (h : ∀ us : List Value, us.length = ps.length → bindArgs fd ⟨us, []⟩ = pure (ps.zip us)) : Binds K fd ps [] := fun s us _ hl => by
  rw [List.append_nil] at hl ⊢
  exact .of_eq (h us hl)

/-- an exception of a callee reaches what this body wants of exceptions -/
def Passes (CX : CXT) (X : Cx) (E : XK) : Prop := ∀ (pins : List (Addr × Obj)) (σ : St) (H : Hp) (s : Shared) (e : Value) (s' : Shared), Inv X pins σ H s → CX X.stack H s E e s' → X.xe e s'

section
variable {X : Cx} {CX : CXT} {k : Nat} {f C : Addr} {fd : FuncData} {ps : List Str} {sp : Sp} {dvs : List V} {ds : List Value} {E : XK} {x m : Str} {p pos apos : Pos} {e o : Expr} {es : List Expr} {ta : TE} {t : TA}

/-- the callee runs -/
theorem run_fn {pins : List (Addr × Obj)} {σ : St} {H : Hp} {s : Shared} {Q : VK} {us : List Value} {vs : List V} (F : FnOk X.prog X.w X.K X.mg X.base CX k f fd ps sp) (hr : Room k X.A) (hb : Binds X.K fd ps ds) (hd : Vals dvs ds) (hx : Passes CX X E)
    (I : Inv X pins σ H s) (r : Vals vs us) (h : sp (vs ++ dvs) H Q E) : wpAny (model X.prog X.w) X.A (call (.ref f) us) (EP X pins σ Q) X.xe s := by
  have r2 : Vals (vs ++ dvs) (us ++ ds) := r.append hd
  have hl : (us ++ ds).length = ps.length := by rw [← r2.length]; exact F.len _ _ _ _ h
  refine wpAny_call (codeAny_mono (F.run X.A X.stack s H ⟨us, []⟩ (us ++ ds) (vs ++ dvs) Q E hr I.env0 (hb s us I.kIn hl) r2 h) fun r s' hq => ?_)
  cases r with
  | error e => exact hx pins σ H s e s' I hq
  | ok fl =>
    cases fl with
    | ret u => exact I.after hq
    | next => exact False.elim hq
    | brk => exact False.elim hq
    | cont => exact False.elim hq

theorem pe_call (F : FnOk X.prog X.w X.K X.mg X.base CX k f fd ps sp) (hr : Room k X.A) (hg : Gl X x) (hm : X.mg x = some (.ref f)) (hk : PySem.W.keepIn X.K (.ref f) = true) (hb : Binds X.K fd ps ds) (hd : Vals dvs ds) (hx : Passes CX X E)
    (ha : PA X (e :: es) t) (hdb : (x == ("__debug__" : Str)) = false := by decide) (he : starEach (e :: es) X.env = (false, eval e X.env) :: starEach es X.env := by rfl) (hpl : (backTo pos (starEach es X.env)).any (·.1) = false := by rfl) :
    PE X (.Call (.Name x p) (e :: es) [] pos) (tCall sp dvs E t) := by
  intro pins s σ H Q I h
  refine wpAny_Call_Name_kw (ld_glob I hg hm ?_ hdb)
  refine PySem.W.callWith_K (h₀ := X.base) I.ok.mod.kin hk (thn (ha pos pins s σ H _ I h) fun us s1 ⟨vs, H1, I1, r, q⟩ => ⟨I1.kIn, ?_⟩) he hpl
  exact run_fn F hr hb hd hx I1 r q
theorem pe_call0 (F : FnOk X.prog X.w X.K X.mg X.base CX k f fd ps sp) (hr : Room k X.A) (hg : Gl X x) (hm : X.mg x = some (.ref f)) (hk : PySem.W.keepIn X.K (.ref f) = true) (hb : Binds X.K fd ps ds) (hd : Vals dvs ds) (hx : Passes CX X E)
    (hdb : (x == ("__debug__" : Str)) = false := by decide) : PE X (.Call (.Name x p) [] [] pos) (tCall sp dvs E tNil) := by
  intro pins s σ H Q I h
  refine wpAny_Call_Name_kw (ld_glob I hg hm ?_ hdb)
  exact PySem.W.callWith_K0 I.kIn hk (run_fn (us := []) F hr hb hd hx I .nil h)

/-- o.m(e, ..) -/
theorem pe_meth {pl : Sem Bool} (he : PE X o ta) (c : Cls X.K C) (hm : Meth X.K C m f) (F : FnOk X.prog X.w X.K X.mg X.base CX k f fd ps sp) (hr : Room k X.A) (hb : Binds X.K fd ps ds) (hd : Vals dvs ds) (hx : Passes CX X E) (ha : PA X (e :: es) t)
    (hst : starEach (e :: es) X.env = (false, eval e X.env) :: starEach es X.env := by rfl) (hpl : (backTo pos (starEach es X.env)).any (·.1) = false := by rfl)
    (ht : eval (.Call (.Attribute o m apos) (e :: es) [] pos) X.env = (do
      let ov ← eval o X.env
      standAt apos.atName
      let (f, first) ← holding [ov] (getMethod ov m pl)
      callWith pos f first (backTo pos (starEach (e :: es) X.env)) (backToKw pos (keywordEach [] X.env))) := by rfl) :
    PE X (.Call (.Attribute o m apos) (e :: es) [] pos) (tMeth C m sp dvs E ta t) := by
  intro pins s σ H Q I h
  refine PySem.W.methodCall_KW (pl := pl) (thn (he pins s σ H _ I h) fun u s1 ⟨x, H1, I1, rx, a, dx, fs, ex, ea, l, q⟩ => ?_) ht
  subst ex
  obtain rfl : u = Value.ref a := rx
  refine getmeth_ok I1 ea c hm l ?_
  refine PySem.W.callWith_K (first := [.ref a]) (h₀ := X.base) I.ok.mod.kin hm.kp (thn (ha pos pins s1 σ H1 _ I1 q) fun us s2 ⟨vs, H2, I2, r, q2⟩ => ⟨I2.kIn, ?_⟩) hst hpl
  exact run_fn (us := .ref a :: us) (vs := .ref a :: vs) F hr hb hd hx I2 (.cons rfl r) q2
/-- o.m() -/
theorem pe_meth0 {pl : Sem Bool} (he : PE X o ta) (c : Cls X.K C) (hm : Meth X.K C m f) (F : FnOk X.prog X.w X.K X.mg X.base CX k f fd ps sp) (hr : Room k X.A) (hb : Binds X.K fd ps ds) (hd : Vals dvs ds) (hx : Passes CX X E)
    (ht : eval (.Call (.Attribute o m apos) [] [] pos) X.env = (do
      let ov ← eval o X.env
      standAt apos.atName
      let (f, first) ← holding [ov] (getMethod ov m pl)
      callWith pos f first (backTo pos (starEach [] X.env)) (backToKw pos (keywordEach [] X.env))) := by rfl) :
    PE X (.Call (.Attribute o m apos) [] [] pos) (tMeth C m sp dvs E ta tNil) := by
  intro pins s σ H Q I h
  refine PySem.W.methodCall_KW (pl := pl) (thn (he pins s σ H _ I h) fun u s1 ⟨x, H1, I1, rx, a, dx, fs, ex, ea, l, q⟩ => ?_) ht
  subst ex
  obtain rfl : u = Value.ref a := rx
  refine getmeth_ok I1 ea c hm l ?_
  exact PySem.W.callWith_K0 (first := [.ref a]) I1.kIn hm.kp (run_fn (us := [.ref a]) (vs := [.ref a]) F hr hb hd hx I1 (.cons rfl .nil) q)

/-- what a class must have to be made -/
structure Mk (K : PySem.W.Frag) (C f : Addr) : Prop where
  makes : PySem.W.makesIn K C = true
  init : PySem.W.findIn K (.ref C) "__init__" = some (some (.ref f))
  fn : PySem.W.isFn K (.ref f) = true
  kp : PySem.W.keepIn K (.ref C) = true

theorem run_make {pins : List (Addr × Obj)} {σ : St} {H : Hp} {s : Shared} {Q : VK} {us : List Value} {vs : List V} (M : Mk X.K C f) (F : FnOk X.prog X.w X.K X.mg X.base CX k f fd ps sp) (hr : Room (k + 1) X.A) (hb : Binds X.K fd ps ds) (hd : Vals dvs ds)
    (hx : Passes CX X E) (I : Inv X pins σ H s) (r : Vals vs us)
    (h : ∀ x dx, H x = none → H dx = none → dx ≠ x → sp (.ref x :: (vs ++ dvs)) (upd (upd H dx (.own x)) x (.ins C dx [])) (fun v H2 => v = .non ∧ Q (.ref x) H2) E) :
    wpAny (model X.prog X.w) X.A (call (.ref C) us) (EP X pins σ Q) X.xe s := by
  have hq := h (s.heap.objs.size + 1) s.heap.objs.size (I.hok.fresh (Nat.le_succ _)) (I.hok.fresh (Nat.le_refl _)) (Nat.ne_of_lt (Nat.lt_succ_self _))
  have I2 := Inv.made (C := C) I
  have r2 : Vals (V.ref (s.heap.objs.size + 1) :: (vs ++ dvs)) (Value.ref (s.heap.objs.size + 1) :: (us ++ ds)) := .cons rfl (r.append hd)
  have hl : (Value.ref (s.heap.objs.size + 1) :: us ++ ds).length = ps.length := by
    have e := r2.length
    rw [F.len _ _ _ _ hq] at e
    exact e.symm
  refine wpAny_call (make_map (f := f) I.kIn M.makes M.init (beq_iff_eq.mp M.fn) (codeAny_mono (F.run _ X.stack _ _ ⟨Value.ref (s.heap.objs.size + 1) :: us, []⟩ (Value.ref (s.heap.objs.size + 1) :: (us ++ ds)) _ _ E (hr.make C us [])
    (I2.env0.make C us []) (hb _ (Value.ref (s.heap.objs.size + 1) :: us) I2.kIn hl) r2 hq) fun r s' hq' => ?_))
  cases r with
  | error e => exact hx pins σ _ _ e s' I2 hq'
  | ok fl =>
    cases fl with
    | ret u =>
      obtain ⟨v, H', I3, rv, ev, q3⟩ := I2.after hq'
      subst ev
      exact ⟨rv, ⟨V.ref (s.heap.objs.size + 1), H', I3, rfl, q3⟩⟩
    | next => exact False.elim hq'
    | brk => exact False.elim hq'
    | cont => exact False.elim hq'
theorem pe_make (M : Mk X.K C f) (F : FnOk X.prog X.w X.K X.mg X.base CX k f fd ps sp) (hr : Room (k + 1) X.A) (hg : Gl X x) (hm : X.mg x = some (.ref C)) (hb : Binds X.K fd ps ds) (hd : Vals dvs ds) (hx : Passes CX X E)
    (ha : PA X (e :: es) t) (hdb : (x == ("__debug__" : Str)) = false := by decide) (he : starEach (e :: es) X.env = (false, eval e X.env) :: starEach es X.env := by rfl) (hpl : (backTo pos (starEach es X.env)).any (·.1) = false := by rfl) :
    PE X (.Call (.Name x p) (e :: es) [] pos) (tMake C sp dvs E t) := by
  intro pins s σ H Q I h
  refine wpAny_Call_Name_kw (ld_glob I hg hm ?_ hdb)
  refine PySem.W.callWith_K (h₀ := X.base) I.ok.mod.kin M.kp (thn (ha pos pins s σ H _ I h) fun us s1 ⟨vs, H1, I1, r, q⟩ => ⟨I1.kIn, ?_⟩) he hpl
  exact run_make M F hr hb hd hx I1 r q
theorem pe_make0 (M : Mk X.K C f) (F : FnOk X.prog X.w X.K X.mg X.base CX k f fd ps sp) (hr : Room (k + 1) X.A) (hg : Gl X x) (hm : X.mg x = some (.ref C)) (hb : Binds X.K fd ps ds) (hd : Vals dvs ds) (hx : Passes CX X E)
    (hdb : (x == ("__debug__" : Str)) = false := by decide) : PE X (.Call (.Name x p) [] [] pos) (tMake C sp dvs E tNil) := by
  intro pins s σ H Q I h
  refine wpAny_Call_Name_kw (ld_glob I hg hm ?_ hdb)
  exact PySem.W.callWith_K0 I.kIn M.kp (run_make (us := []) M F hr hb hd hx I .nil h)
end

/-! ### keywords -/
/-- the values of the keywords, from the left -/
def PK (X : Cx) (kws : List Keyword) (t : TA) : Prop :=
  ∀ (pos : Pos) (pins : List (Addr × Obj)) (s : Shared) (σ : St) (H : Hp) (Q : List V → Hp → Prop), Inv X pins σ H s → t σ H Q → wpAny (model X.prog X.w) X.A (evalAll ((backToKw pos (keywordEach kws X.env)).map (·.2))) (AP X pins σ Q) X.xe s
section
variable {X : Cx} {CX : CXT} {k : Nat} {f C : Addr} {fd : FuncData} {ps ks : List Str} {sp : Sp} {E : XK} {x m : Str} {p pos apos kpos : Pos} {e o : Expr} {es : List Expr} {kws : List Keyword} {te ta : TE} {t tk : TA} {nm : Option Str}
theorem pk_nil : PK X [] tNil := fun _ _ _ _ H Q I h => wpAny_evalAll_nil ⟨[], H, I, .nil, h⟩
theorem pk_cons (ha : PE X e te) (hr : PK X kws t) : PK X (⟨nm, e, kpos⟩ :: kws) (tCons te t) := by
  intro pos pins s σ H Q I h
  show wpAny _ _ (evalAll ((do let v ← eval e X.env; standAt pos; pure v) :: (backToKw pos (keywordEach kws X.env)).map (·.2))) _ _ s
  refine wpAny_evalAll_cons (wpAny_bind (thn (ha pins s σ H _ I h) fun u s1 ⟨x, H1, I1, r1, q1⟩ => wpAny_bind (wpAny_standAt (wpAny_pure ?_))))
  exact thn (hr pos pins s1 σ H1 _ I1 q1) fun us s2 ⟨xs, H2, I2, r2, q2⟩ => ⟨x :: xs, H2, I2, .cons r1 r2, q2⟩

/-- how a call with keywords binds: g puts the positional values us and the keywords' values ws (names ks) in the parameters' order, defaults among them -/
structure KBinds (K : PySem.W.Frag) (fd : FuncData) (ps ks : List Str) (g : List Value → List Value → List Value) (gV : List V → List V → List V) : Prop where
  to : ∀ (s : Shared) (us ws : List Value), K.In s.heap → (g us ws).length = ps.length → BindsTo s fd ⟨us, ks.zip ws⟩ (ps.zip (g us ws))
  rel : ∀ {vs : List V} {us : List Value} {zs : List V} {ws : List Value}, Vals vs us → Vals zs ws → Vals (gV vs zs) (g us ws)
def tCallK (sp : Sp) (gV : List V → List V → List V) (E : XK) (t tk : TA) : TE := fun σ H Q => t σ H fun vs H1 => tk σ H1 fun zs H2 => sp (gV vs zs) H2 Q E
variable {g : List Value → List Value → List Value} {gV : List V → List V → List V}
theorem run_fnk {pins : List (Addr × Obj)} {σ : St} {H : Hp} {s : Shared} {Q : VK} {us ws : List Value} {vs zs : List V} (F : FnOk X.prog X.w X.K X.mg X.base CX k f fd ps sp) (hr : Room k X.A) (hb : KBinds X.K fd ps ks g gV) (hx : Passes CX X E)
    (I : Inv X pins σ H s) (r : Vals vs us) (rz : Vals zs ws) (h : sp (gV vs zs) H Q E) : wpAny (model X.prog X.w) X.A (call (.ref f) us (ks.zip ws)) (EP X pins σ Q) X.xe s := by
  have r2 := hb.rel r rz
  have hl : (g us ws).length = ps.length := by rw [← r2.length]; exact F.len _ _ _ _ h
  refine wpAny_call (codeAny_mono (F.run X.A X.stack s H ⟨us, ks.zip ws⟩ (g us ws) (gV vs zs) Q E hr I.env0 (hb.to s us ws I.kIn hl) r2 h) fun r s' hq => ?_)
  cases r with
  | error e => exact hx pins σ H s e s' I hq
  | ok fl =>
    cases fl with
    | ret u => exact I.after hq
    | next => exact False.elim hq
    | brk => exact False.elim hq
    | cont => exact False.elim hq
/-- f(e, .., k = v, ..) -/
theorem pe_callK (F : FnOk X.prog X.w X.K X.mg X.base CX k f fd ps sp) (hr : Room k X.A) (hg : Gl X x) (hm : X.mg x = some (.ref f)) (hk : PySem.W.keepIn X.K (.ref f) = true) (hb : KBinds X.K fd ps ks g gV) (hx : Passes CX X E)
    (ha : PA X (e :: es) t) (hkw : PK X kws tk) (hall : (backToKw pos (keywordEach kws X.env)).all (·.1.isSome) = true := by rfl) (hks : (backToKw pos (keywordEach kws X.env)).filterMap (·.1) = ks := by rfl)
    (hdb : (x == ("__debug__" : Str)) = false := by decide) (he : starEach (e :: es) X.env = (false, eval e X.env) :: starEach es X.env := by rfl)
    (hpl : ((backTo pos (starEach (e :: es) X.env)).any (·.1) || (backToKw pos (keywordEach kws X.env)).any (·.1.isNone)) = false := by rfl) :
    PE X (.Call (.Name x p) (e :: es) kws pos) (tCallK sp gV E t tk) := by
  intro pins s σ H Q I h
  refine wpAny_Call_Name_kw (ld_glob I hg hm ?_ hdb)
  refine PySem.W.callWith_KW (h₀ := X.base) I.ok.mod.kin hk hall (thn (ha pos pins s σ H _ I h) fun us s1 ⟨vs, H1, I1, r, q⟩ => ?_) hpl he
  refine thn (hkw pos pins s1 σ H1 _ I1 q) fun ws s2 ⟨zs, H2, I2, rz, q2⟩ => ⟨I2.kIn, ?_⟩
  rw [hks]
  exact run_fnk F hr hb hx I2 r rz q2
end

/-! ### a def's body keeps its promise -/
/-- names: the parameters first -/
structure FnScope (N P : List Str) (sc : Scope) : Prop where
  kind : sc.kind = .function
  co : sc.isCoroutine = false
  gen : sc.isGenerator = false
  nd : N.Nodup
  pre : N.take P.length = P
  par : ∀ x ∈ P, sc.names.lookup x = some .local ∨ sc.names.lookup x = some .cell
  nofree : ∀ y ∈ sc.names, y.2 ≠ .free

theorem bindL_out {kindOf : Str → Option NameKind} {x : Str} : ∀ {binds : List (Str × Value)} {m : Str → Option Value}, (∀ v, (x, v) ∉ binds) → bindL kindOf binds m x = m x
  | [], _, _ => rfl
  | (n, v) :: r, m, h => by
    unfold bindL
    rw [bindL_out fun w hw => h w (List.mem_cons_of_mem _ hw)]
    split
    · have : x ≠ n := by rintro rfl; exact h v List.mem_cons_self
      simp [this]
    · rfl
theorem bindC_out {kindOf : Str → Option NameKind} {x : Str} : ∀ {binds : List (Str × Value)} {m : Str → Option Value}, (∀ v, (x, v) ∉ binds) → bindC kindOf binds m x = m x
  | [], _, _ => rfl
  | (n, v) :: r, m, h => by
    unfold bindC
    rw [bindC_out fun w hw => h w (List.mem_cons_of_mem _ hw)]
    split
    · rfl
    · have : x ≠ n := by rintro rfl; exact h v List.mem_cons_self
      simp [this]
theorem bindL_get {kindOf : Str → Option NameKind} {x : Str} {v : Value} : ∀ {P : List Str} {vs : List Value} {i : Nat} {m : Str → Option Value}, P.Nodup → P[i]? = some x → vs[i]? = some v → kindOf x = some .local →
    bindL kindOf (P.zip vs) m x = some v
  | [], _, _, _, _, h, _, _ => by simp at h
  | _ :: _, [], _, _, _, _, h, _ => by simp at h
  | p :: P, w :: vs, 0, m, nd, h1, h2, hk => by
    simp at h1 h2; subst h1; subst h2
    show bindL kindOf ((p, w) :: P.zip vs) m p = _
    unfold bindL
    rw [bindL_out fun v hv => (List.nodup_cons.mp nd).1 (List.of_mem_zip hv).1, if_pos hk]
    simp
  | p :: P, w :: vs, i + 1, m, nd, h1, h2, hk => by
    show bindL kindOf ((p, w) :: P.zip vs) m x = _
    unfold bindL
    exact bindL_get (i := i) (List.nodup_cons.mp nd).2 (by simpa using h1) (by simpa using h2) hk
theorem bindC_get {kindOf : Str → Option NameKind} {x : Str} {v : Value} : ∀ {P : List Str} {vs : List Value} {i : Nat} {m : Str → Option Value}, P.Nodup → P[i]? = some x → vs[i]? = some v → kindOf x ≠ some .local →
    bindC kindOf (P.zip vs) m x = some v
  | [], _, _, _, _, h, _, _ => by simp at h
  | _ :: _, [], _, _, _, _, h, _ => by simp at h
  | p :: P, w :: vs, 0, m, nd, h1, h2, hk => by
    simp at h1 h2; subst h1; subst h2
    show bindC kindOf ((p, w) :: P.zip vs) m p = _
    unfold bindC
    rw [bindC_out fun v hv => (List.nodup_cons.mp nd).1 (List.of_mem_zip hv).1, if_neg hk]
    simp
  | p :: P, w :: vs, i + 1, m, nd, h1, h2, hk => by
    show bindC kindOf ((p, w) :: P.zip vs) m x = _
    unfold bindC
    exact bindC_get (i := i) (List.nodup_cons.mp nd).2 (by simpa using h1) (by simpa using h2) hk

/-- the names' values at the entry -/
def start (N : List Str) (vs : List V) : St := vs.map some ++ List.replicate (N.length - vs.length) none

/-- the context of a def's body, at its entry; an exception leaves the frame, then lies as CX says -/
def cxOf (CX : CXT) (P : Program) (w : World) (K : PySem.W.Frag) (mg : Str → Option Value) (base : Heap) (N : List Str) (qual : Str) (scope : Scope) (f : Addr) (cd : Value) (A : Around) (outer : List Env) (s : Shared) (H : Hp) (E : XK) : Cx where
  prog := P
  w := w
  K := K
  mg := mg
  base := base
  A := A.deeper (envOfC qual scope s.heap.objs.size f cd)
  N := N
  s₀ := s
  H₀ := H
  env := envOfC qual scope s.heap.objs.size f cd
  outer := outer
  stack := envOfC qual scope s.heap.objs.size f cd :: outer
  ex := []
  calm := true
  fn := fun _ => true
  pn := []
  xe := fun e s' => wpAny (model P w) (A.deeper (envOfC qual scope s.heap.objs.size f cd)) (leaving (envOfC qual scope s.heap.objs.size f cd) e) (fun _ s'' => CX outer H s E e s'') (fun e' s'' => CX outer H s E e' s'') s'

theorem cell_has {sc : Scope} {n : Nat} {x : Str} (h : sc.names.lookup x = some .cell) : ∃ c, (cellsFrom n sc.names []).lookup x = some c := by
  have q := PySem.W.cellsFrom_some sc.names n [] (.inl h)
  exact Option.isSome_iff_exists.mp q

theorem inv_start {CX : CXT} {P : Program} {w : World} {K : PySem.W.Frag} {mg : Str → Option Value} {base : Heap} {N ps : List Str} {qual : Str} {scope : Scope} {f : Addr} {cd : Value} {A : Around} {outer : List Env} {s s1 : Shared} {H : Hp} {E : XK} {us : List Value} {vs : List V}
    (S : FnScope N ps scope) (hd : A.handled = none) (e0 : Env0 P w K mg base A outer s H) (hl : vs.length = ps.length) (r : Vals vs us)
    (x : InCallC s s.heap.objs.size (bindL (envOfC qual scope s.heap.objs.size f cd).kindOf (ps.zip us) fun _ => none) (cellsFrom (s.heap.objs.size + 1) scope.names []) (bindC (envOfC qual scope s.heap.objs.size f cd).kindOf (ps.zip us) fun _ => none) s1) :
    Inv (cxOf CX P w K mg base N qual scope f cd A outer s H E) [] (start N vs) H s1 := by
  have hpl : ps.length ≤ N.length := by have := congrArg List.length S.pre; rw [List.length_take] at this; omega
  obtain ⟨h1, tk, rfl, hk⟩ := x.done
  have noA : ∀ b : Addr, b ∉ (cxOf CX P w K mg base N qual scope f cd A outer s H E).ex := fun b z => absurd (show b ∈ ([] : List Addr) from z) (by simp)
  refine ⟨⟨e0.mod, S.kind, rfl, rfl, Nat.le_refl _, fun y z c h1 h2 => ?_, fun y hy => ?_, fun y c _ h => ?_, fun _ => hd, Around.frames_deeper e0.frames, .inr ⟨rfl, rfl⟩, fun b z => absurd z (noA b), e0.bs, e0.bsz, fun b _ _ => noA b, fun b z => absurd z (noA b), e0.funs, e0.frf⟩,
    rfl, e0.bare, Un.kept hk, ⟨_, x.toInCall.ns, fun i y v h1 h2 h3 => ?_⟩, fun y c h => ⟨_, x.cell y c h⟩, e0.hok.fresh (Nat.le_refl _), fun y c h => ?_, fun p hp => absurd (show p ∈ ([] : List (Addr × Obj)) from hp) (by simp), e0.hok.kept hk, ?_⟩
  · exact name_of_addr x.apart (PySem.mem_of_lookup h1) (PySem.mem_of_lookup h2)
  · have hy : scope.names.lookup y = some .cell ∨ scope.names.lookup y = some .free := hy
    rcases hy with hy | hy
    · exact cell_has hy
    · exact absurd rfl (S.nofree _ (PySem.mem_of_lookup hy))
  · exact Nat.le_of_lt (x.above y c (PySem.mem_of_lookup h))
  · have hi : i < vs.length := by
      unfold start at h2
      by_cases hi : i < vs.length
      · exact hi
      · rw [List.getElem?_append_right (by simpa using hi)] at h2
        rw [List.getElem?_replicate] at h2
        split at h2 <;> cases h2
    have ha : vs[i]? = some v := by
      unfold start at h2
      rw [List.getElem?_append_left (by simpa using hi), List.getElem?_map] at h2
      cases e : vs[i]? with
      | none => rw [e] at h2; cases h2
      | some a => rw [e] at h2; cases h2; rfl
    obtain ⟨u, hu, rv⟩ := r.get ha
    have hp : ps[i]? = some y := by
      rw [← S.pre, List.getElem?_take_of_lt (by omega)]; exact h1
    have ndP : ps.Nodup := by rw [← S.pre]; exact S.nd.sublist (List.take_sublist _ _)
    refine ⟨u, rv, ?_⟩
    rcases S.par y (List.mem_of_getElem? hp) with k | k
    · exact .inl ⟨k, bindL_get ndP hp hu k⟩
    · obtain ⟨c, e⟩ := cell_has (n := s.heap.objs.size + 1) k
      refine .inr ⟨.inl k, c, e, ?_⟩
      have q := x.cell y c e
      rw [bindC_get ndP hp hu (by show scope.names.lookup y ≠ _; rw [k]; decide)] at q
      exact q
  · exact e0.hok.fresh (Nat.le_of_lt (x.above y c (PySem.mem_of_lookup h)))
  · unfold start
    show _ = N.length
    rw [List.length_append, List.length_map, List.length_replicate]
    omega

/-- THE RULE: a def (or a method) of the text, by its body. The body's reading t is chosen for each entry; it is run at the parameters' values -/
theorem fn_of {CX : CXT} {P : Program} {w : World} {K : PySem.W.Frag} {mg : Str → Option Value} {base : Heap} {k : Nat} {f : Addr} {name qual : Str} {params : Arguments} {body : List Stmt} {scope : Scope} {dV kV doc pm cdv ct oc : Value} {an od : Option Addr}
    {osl : Array (Option Value)} {N ps : List Str} {sp : Sp} (lk : K.lookup f = some ⟨oc, od, .func (PySem.W.fnOf name qual params body scope dV kV doc pm an cdv ct), osl⟩) (hcd : PySem.W.codeIn K cdv qual = true) (S : FnScope N ps scope)
    (len : ∀ vs H Q E, sp vs H Q E → vs.length = ps.length)
    (hbody : ∀ (A : Around) (outer : List Env) (s : Shared) (H : Hp) (vs : List V) (Q : VK) (E : XK), Room k (A.deeper (envOfC qual scope s.heap.objs.size f cdv)) → sp vs H Q E →
      ∃ t, PSs (cxOf CX P w K mg base N qual scope f cdv A outer s H E) body t ∧ t { nx := fun _ H' => Q .non H', rt := Q } (start N vs) H) :
    FnOk P w K mg base CX (k + 1) f (PySem.W.fnOf name qual params body scope dV kV doc pm an cdv ct) ps sp := by
  refine ⟨len, fun A outer s H args us vs Q E hr e0 hb r hsp => ?_⟩
  have hl := len _ _ _ _ hsp
  have KX : K.In s.heap := e0.mod.kin.keeps fun b o e => (e0.bs b o e).1
  have lim : s.heap.NoLimit := e0.mod.nolimit.keeps fun b o e => (e0.bs b o e).1
  have hkind : ∀ y ∈ ps.zip us, scope.names.lookup y.1 = some .local ∨ (scope.names.lookup y.1 = some .cell ∧ ((cellsFrom (s.heap.objs.size + 1) scope.names []).lookup y.1).isSome = true) := fun ⟨n, v⟩ hy => by
    rcases S.par n (List.of_mem_zip hy).1 with q | q
    · exact .inl q
    · exact .inr ⟨q, PySem.W.cellsFrom_some _ _ _ (.inl q)⟩
  refine codeAny_call_function hr.depth (KX _ _ lk) rfl S.co S.gen rfl (PySem.W.codeRec_of KX hcd) (hb _ _ _ _ ?_)
  refine wpAny_newFunctionEnv_cells S.kind hkind fun env he s1 x => ?_
  subst he
  refine ⟨lim.keeps x.toInCall.keep, codeAny_func ?_⟩
  obtain ⟨t, ht, hq⟩ := hbody A outer s H vs Q E (hr.deeper _) hsp
  have I : Inv (cxOf CX P w K mg base N qual scope f cdv A outer s H E) [] (start N vs) H s1 := inv_start S hr.hd e0 hl r x
  refine wpAny_mono (ht [] s1 (start N vs) H _ I hq) (fun fl s' hs => ?_) fun e s' hs => hs
  have fin : ∀ {σ' : St} {H' : Hp} {v : V} {u : Value}, Inv (cxOf CX P w K mg base N qual scope f cdv A outer s H E) [] σ' H' s' → RelV v u → Q v H' → CE outer P w H s Q u s' :=
    fun {σ' H' v u} J rv q => ⟨v, H', J.os, J.bare, J.base, J.hok, rv, q⟩
  cases fl with
  | ret u =>
    obtain ⟨v, σ', H', J, rv, q⟩ := hs
    exact fin J rv q
  | next =>
    obtain ⟨σ', H', J, q⟩ := hs
    exact fin (v := V.non) (u := Value.none) J rfl q
  | brk =>
    obtain ⟨_, _, _, q⟩ := hs
    exact False.elim q
  | cont =>
    obtain ⟨_, _, _, q⟩ := hs
    exact False.elim q
end L2

namespace L2
open PySem PySem.Spec PyProof.Rows
section
variable {X : Cx} {x : Str} {p pos : Pos} {e : Expr} {es : List Expr} {t : TA} {id T : String} {r : List V → Hp → VK → Prop}

def tCB (r : List V → Hp → VK → Prop) (t : TA) : TE := fun σ H Q => t σ H fun vs H1 => r vs H1 Q
/-- f(e, ..), f a built-in function -/
theorem pe_callB (hc : CallR X (.builtin id) r) (hg : Gl X x) (hm : X.mg x = none) (hv : bootBuiltins x = some (.builtin id)) (ha : PA X (e :: es) t) (hn : x ≠ "__name__" := by decide) (hdb : (x == ("__debug__" : Str)) = false := by decide)
    (he : starEach (e :: es) X.env = (false, eval e X.env) :: starEach es X.env := by rfl) (hpl : (backTo pos (starEach es X.env)).any (·.1) = false := by rfl) : PE X (.Call (.Name x p) (e :: es) [] pos) (tCB r t) := by
  intro pins s σ H Q I h
  refine wpAny_Call_Name_kw (ld_blt I hg hm hv ?_ hn hdb)
  exact PyProof.Rows.callWith_builtin1 (thn (ha pos pins s σ H _ I h) fun us s1 ⟨vs, H1, I1, r1, q1⟩ => hc pins s1 σ H1 vs us Q I1 r1 q1) he hpl
/-- T(e, ..), T a built-in type -/
theorem pe_callTy (hc : CallR X (.type T) r) (hg : Gl X x) (hm : X.mg x = none) (hv : bootBuiltins x = some (.type T)) (ha : PA X (e :: es) t) (hn : x ≠ "__name__" := by decide) (hdb : (x == ("__debug__" : Str)) = false := by decide)
    (he : starEach (e :: es) X.env = (false, eval e X.env) :: starEach es X.env := by rfl) (hpl : (backTo pos (starEach es X.env)).any (·.1) = false := by rfl) : PE X (.Call (.Name x p) (e :: es) [] pos) (tCB r t) := by
  intro pins s σ H Q I h
  refine wpAny_Call_Name_kw (ld_blt I hg hm hv ?_ hn hdb)
  exact PyProof.Rows.callWith_type1 (thn (ha pos pins s σ H _ I h) fun us s1 ⟨vs, H1, I1, r1, q1⟩ => hc pins s1 σ H1 vs us Q I1 r1 q1) he hpl
/-- T() -/
theorem pe_callTy0 (hc : CallR X (.type T) r) (hg : Gl X x) (hm : X.mg x = none) (hv : bootBuiltins x = some (.type T)) (hn : x ≠ "__name__" := by decide) (hdb : (x == ("__debug__" : Str)) = false := by decide) :
    PE X (.Call (.Name x p) [] [] pos) (tCB r tNil) := by
  intro pins s σ H Q I h
  refine wpAny_Call_Name_kw (ld_blt I hg hm hv ?_ hn hdb)
  exact PyProof.Rows.callWith_type0 (hc pins s σ H [] [] Q I .nil h)
end
end L2

namespace HT
open PySem PyProof.Rows

/-- t < u of tuples of ints -/
def lexLt : List Int → List Int → Bool
  | [], [] => false
  | [], _ :: _ => true
  | _ :: _, [] => false
  | x :: xs, y :: ys => if x = y then lexLt xs ys else decide (x < y)
theorem lexLt_cons (x y : Int) (xs ys : List Int) : lexLt (x :: xs) (y :: ys) = if x = y then lexLt xs ys else decide (x < y) := rfl
theorem lexLt_nil_nil : lexLt [] [] = false := rfl
theorem lexLt_nil_cons (y : Int) (ys : List Int) : lexLt [] (y :: ys) = true := rfl
theorem lexLt_cons_nil (x : Int) (xs : List Int) : lexLt (x :: xs) [] = false := rfl

theorem eqAt_int (A : Around) (s : Shared) (a : Int) (t : Tok) (c : Int) (u : Tok) : ∃ e, SeqAt.EqAt A s (.int a t) (.int c u) e ∧ (e = true ↔ a = c) :=
  ⟨(a == c), SeqAt.EqAt.int_int a t c u, by simp⟩
theorem rcLt_int (A : Around) (s : Shared) (a : Int) (t : Tok) (c : Int) (u : Tok) (prog : Program) (w : World) (E : Value → Shared → Prop) (Q : Value → Shared → Prop) (h : Q (.bool (decide (a < c))) s) :
    wpAny (model prog w) A (richCompare .Lt (.int a t) (.int c u)) Q E s :=
  (PyProof.Rows.lt_int h : wpAny (model prog w) A (compareOp .Lt (.int a t) (.int c u)) Q E s)

section
open PySem.SeqAt
open PySem.AutoSeq1 (wpAny_loadPart')
open PySem.MeetsSeq PySem.MeetsSeq2 PySem.MeetsSeq3

theorem tuple_lt_ints (l b : Addr) (items items2 : Array Value) (n n2 : Nat) (dd dd2 : Option Addr) (sl sl2 : Array (Option Value)) (ns ms : List Int) (hi : IntsAre items.toList ns) (hj : IntsAre items2.toList ms) :
    Meets (Builtin.«tuple.__lt__» ⟨[.ref l, .ref b], []⟩)
      (fun _ R s => s.heap.get? l = some { cls := .type "tuple", dict := dd, data := .seq items n, slots := sl } ∧ s.heap.get? b = some { cls := .type "tuple", dict := dd2, data := .seq items2 n2, slots := sl2 } ∧
        R (.ok (.ret (.bool (lexLt ns ms)))) s) :=
  .of_wp fun prog w A R s h => by
    obtain ⟨hp, g, d, tk, os⟩ := s; obtain ⟨hl, hb, h⟩ := h
    have f2 := AutoSeq1.sub_tuple_tuple
    have z1 : items.size = ns.length := by rw [← hi.length]; simp
    have z2 : items2.size = ms.length := by rw [← hj.length]; simp
    wp_walk using wpAny_loadPart' hl, wpAny_loadPart' hb, wpAny_forIn_list _ (fun rest b s' => b.1 = none ∧ s' = ⟨hp, g, d, tk, os⟩ ∧ ∃ (vs ws : List Value) (ns' ms' : List Int), rest = vs.zip ws ∧
      IntsAre vs ns' ∧ IntsAre ws ms' ∧ ns'.length + items2.size = ms'.length + items.size ∧ R (.ok (.ret (.bool (lexLt ns' ms')))) ⟨hp, g, d, tk, os⟩) _
    case turn =>
      rintro ⟨y, x⟩ rest b s' ⟨hb', rfl, vs, ws, ns', ms', hz, hvi, hwi, hlen, hR⟩
      cases hvi with
      | nil => rw [List.zip_nil_left] at hz; cases hz
      | cons a t hvi' =>
        cases hwi with
        | nil => rw [List.zip_nil_right] at hz; cases hz
        | cons c u hwi' =>
          rw [List.zip_cons_cons] at hz
          injection hz with hyx hrest
          injection hyx with hy hx
          subst hy hx
          rw [lexLt_cons] at hR
          simp only [List.length_cons] at hlen
          obtain ⟨e, he, hiff⟩ := eqAt_int A.in1 ⟨hp, g, d, tk, os⟩ a t c u
          refine wpAny_bind (he prog w _ _ ?_)
          cases e with
          | true =>
            rw [if_pos (hiff.mp rfl)] at hR
            wp_walk
            exact ⟨rfl, rfl, _, _, _, _, hrest, hvi', hwi', by omega, hR⟩
          | false =>
            rw [if_neg (fun q => absurd (hiff.mpr q) Bool.false_ne_true)] at hR
            have hri := rcLt_int A.in1 ⟨hp, g, d, tk, os⟩ a t c u prog w
            wp_walk using hri
            exact ⟨_, rfl, by simpa using hR⟩
    case fin =>
      rintro ⟨b1, b2⟩ s' ⟨hb', rfl, vs, ws, ns', ms', hz, hvi, hwi, hlen, hR⟩
      simp only at hb'
      subst hb'
      have hv : lexLt ns' ms' = decide (items.size < items2.size) := by
        cases hvi with
        | nil =>
          cases hwi with
          | nil =>
            simp only [List.length_nil] at hlen
            rw [lexLt_nil_nil]
            exact (decide_eq_false (by omega)).symm
          | cons c u hw =>
            simp only [List.length_nil, List.length_cons] at hlen
            rw [lexLt_nil_cons]
            exact (decide_eq_true (by omega)).symm
        | cons a t hv =>
          cases hwi with
          | nil =>
            simp only [List.length_nil, List.length_cons] at hlen
            rw [lexLt_cons_nil]
            exact (decide_eq_false (by omega)).symm
          | cons c u hw =>
            rw [List.zip_cons_cons] at hz
            cases hz
      rw [hv] at hR
      wp_walk
      exact ⟨_, rfl, by simpa [Builtin.Tuple.tupleCompareSizes] using hR⟩
    case h =>
      exact ⟨rfl, rfl, items.toList, items2.toList, ns, ms, rfl, hi, hj, by omega, h⟩
end

section
variable {prog : Program} {w : World} {A : Around} {E : Value → Shared → Prop} {s : Shared}

theorem lt_tupInts {l b : Addr} {items items2 : Array Value} {ns ms : List Int} {Q : Value → Shared → Prop} (hl : IsTup s.heap l items) (hb : IsTup s.heap b items2) (hi : IntsAre items.toList ns) (hj : IntsAre items2.toList ms)
    (hu : A.units < cLine) (h : Q (.bool (lexLt ns ms)) s) : wpAny (model prog w) A (compareOp .Lt (.ref l) (.ref b)) Q E s := by
  obtain ⟨⟨cls, dd, data, sl⟩, ho, hc, n, hd⟩ := id hl
  obtain ⟨⟨cls2, dd2, data2, sl2⟩, ho2, hc2, n2, hd2⟩ := id hb
  simp only at hc hd hc2 hd2
  subst hc hd hc2 hd2
  exact richCompare_meets_room (op := .Lt) ⟨_, ho, rfl⟩ ⟨_, ho2, rfl⟩ PySem.F.slot_tuple_lt PySem.F.entry_tuple_lt (PySem.F.args_tuple_lt_2 _ _) (tuple_lt_ints l b items items2 n n2 dd dd2 sl sl2 ns ms hi hj)
    ⟨ho, ho2, show Value.bool (lexLt ns ms) ≠ Value.notImplemented ∧ Q (.bool (lexLt ns ms)) s from ⟨(fun x => nomatch x), h⟩⟩ hu

/-- t + u, t not empty -/
theorem cat_tup {t b : Addr} {vs ws : List Value} {Q : Value → Shared → Prop} (ht : IsTup s.heap t vs.toArray) (hb : IsTup s.heap b ws.toArray) (hv : vs ≠ [])
    (h1 : ws = [] → Q (.ref t) s) (h2 : ws ≠ [] → Q (.ref s.heap.objs.size) { s with heap := s.heap.push { cls := .type "tuple", data := .seq (vs ++ ws).toArray } })
    (hsz : vs.length + ws.length ≤ sizeLine) : wpAny (model prog w) A (binaryOp .Add (.ref t) (.ref b)) Q E s := by
  obtain ⟨⟨cls, dd, data, sl⟩, ho, hc, n, hd⟩ := id ht
  obtain ⟨⟨cls2, dd2, data2, sl2⟩, ho2, hc2, n2, hd2⟩ := id hb
  simp only at hc hd hc2 hd2
  subst hc hd hc2 hd2
  have e : vs.toArray ++ ws.toArray = (vs ++ ws).toArray := by simp
  by_cases hw : ws = []
  · exact concat_meets ⟨_, ho, rfl⟩ ⟨_, ho2, rfl⟩ noFill_tuple_add seq_tuple_add PySem.F.slot_tuple_add PySem.F.entry_tuple_add (PySem.F.args_tuple_add_2 _ _)
      (tuple_addW1 t b vs.toArray ws.toArray n n2 dd dd2 sl sl2 (by simpa using hv) (by simp [hw])) ⟨ho, ho2, h1 hw⟩
  · refine concat_meets ⟨_, ho, rfl⟩ ⟨_, ho2, rfl⟩ noFill_tuple_add seq_tuple_add PySem.F.slot_tuple_add PySem.F.entry_tuple_add (PySem.F.args_tuple_add_2 _ _)
      (tuple_addW2 t b vs.toArray ws.toArray n n2 dd dd2 sl sl2 (by simpa using hv) (by simpa using hw) (by rw [List.size_toArray, List.size_toArray]; exact hsz)) ⟨ho, ho2, ?_⟩
    rw [e]
    exact h2 hw

/-! ### t[a:b], not the whole -/
/-- a slice's bound as a place among n (d where it is left out) -/
def sIx (n d : Nat) : Option Int → Nat
  | none => d
  | some v => if v < 0 then (v + (n : Int)).toNat else min v.toNat n
theorem sIx_none (n d : Nat) : sIx n d none = d := rfl
theorem sIx_nat (n d k : Nat) : sIx n d (some (k : Int)) = min k n := by
  show (if (k : Int) < 0 then ((k : Int) + (n : Int)).toNat else min (k : Int).toNat n) = min k n
  rw [if_neg (by omega), Int.toNat_natCast]
theorem sIx_le (n d : Nat) (hd : d ≤ n) (o : Option Int) : sIx n d o ≤ n := by
  cases o with
  | none => exact hd
  | some v =>
    show (if v < 0 then (v + (n : Int)).toNat else min v.toNat n) ≤ n
    by_cases hv : v < 0
    · rw [if_pos hv]; omega
    · rw [if_neg hv]; exact Nat.min_le_right _ _
theorem clip_eq (v : Int) (n d : Nat) : (if v < 0 then max (v + (n : Int)) 0 else min v (n : Int)) = ((sIx n d (some v) : Nat) : Int) := by
  show (if v < 0 then max (v + (n : Int)) 0 else min v (n : Int)) = (((if v < 0 then (v + (n : Int)).toNat else min v.toNat n) : Nat) : Int)
  by_cases hv : v < 0
  · simp only [if_pos hv]; omega
  · simp only [if_neg hv]; omega
theorem adjust_gen (lo hi : Option Int) (n : Nat) : Builtin.Slice.sliceAdjust lo hi 1 (n : Int) = (((sIx n 0 lo : Nat) : Int), ((sIx n n hi : Nat) : Int)) := by
  have h1 : ¬ ((1 : Int) < 0) := by omega
  unfold Builtin.Slice.sliceAdjust
  simp only [h1, if_false]
  refine Prod.ext ?_ ?_
  · cases lo with
    | none => rfl
    | some v => exact clip_eq v n 0
  · cases hi with
    | none => rfl
    | some v => exact clip_eq v n n
theorem places_gen (i j : Nat) : Builtin.Slice.slicePlaces (i : Int) (j : Int) 1 = j - i := by
  unfold Builtin.Slice.slicePlaces
  have h1 : (1 : Int) > 0 := by omega
  simp only [h1, if_true, Int.ediv_one]
  split <;> omega
theorem slicePart_ {v : Value} {o : Option Int} {Q : Option Int → Shared → Prop} (p : IsPart v o) (h : Q o s) : wpAny (model prog w) A (Builtin.Slice.slicePartIndex v) Q E s := by
  cases p with
  | none => exact slicePart_none h
  | int i t => exact slicePart_int h
theorem sliceApplied_gen {sl : Addr} {vl vu : Value} {lo hi : Option Int} {n : Nat} {Q : Int × Int × Nat → Shared → Prop} (hs : s.heap.IsSliceOf sl vl vu .none) (pl : IsPart vl lo) (pu : IsPart vu hi)
    (h : Q (((sIx n 0 lo : Nat) : Int), 1, sIx n n hi - sIx n 0 lo) s) : wpAny (model prog w) A (Builtin.Slice.sliceApplied (.ref sl) (pure (n : Int))) Q E s := by
  obtain ⟨os, hos, hcs, hds⟩ := id hs
  unfold Builtin.Slice.sliceApplied Builtin.Slice.sliceFields
  refine wpAny_bind (wpAny_bind (wpAny_field hos hds (x := vl) rfl (wpAny_bind (wpAny_field hos hds (x := vu) rfl (wpAny_bind (wpAny_field hos hds (x := .none) rfl (wpAny_pure ?_)))))))
  refine wpAny_bind (slicePart_none ?_)
  show wpAny _ _ (if ((1 : Int) == 0) = true then _ else _) _ _ s
  rw [if_neg (by decide)]
  refine wpAny_bind (slicePart_ pl (wpAny_bind (slicePart_ pu (wpAny_bind (wpAny_pure ?_)))))
  show wpAny _ _ (match Builtin.Slice.sliceAdjust lo hi 1 (n : Int) with | (lo, hi) => pure (lo, (1 : Int), Builtin.Slice.slicePlaces lo hi 1)) _ _ s
  rw [adjust_gen lo hi n]
  show wpAny _ _ (pure (((sIx n 0 lo : Nat) : Int), (1 : Int), Builtin.Slice.slicePlaces ((sIx n 0 lo : Nat) : Int) ((sIx n n hi : Nat) : Int) 1)) _ _ s
  rw [places_gen]
  exact wpAny_pure h
theorem pick_gen (xs : Array Value) (i k : Nat) : ((List.range k).filterMap fun (m : Nat) => xs[((i : Int) + (m : Int) * 1).toNat]?).toArray = ((xs.toList.drop i).take k).toArray := by
  have e : (fun (m : Nat) => xs[((i : Int) + (m : Int) * 1).toNat]?) = fun m => xs[i + m]? := by
    funext m
    have : ((i : Int) + (m : Int) * 1).toNat = i + m := by omega
    rw [this]
  rw [e]
  have := pick_run xs i k
  rw [List.filterMap_map] at this
  have e2 : ((fun x => xs[x]?) ∘ fun x => i + x) = fun m => xs[i + m]? := rfl
  rw [e2] at this
  rw [this]

theorem getItem_tuple_cut {t sl : Addr} {items : Array Value} {vl vu : Value} {lo hi : Option Int} {Q : Value → Shared → Prop} (ht : IsTup s.heap t items) (hs : s.heap.IsSliceOf sl vl vu .none) (pl : IsPart vl lo) (pu : IsPart vu hi)
    (hw : ¬ (sIx items.size 0 lo = 0 ∧ sIx items.size items.size hi = items.size))
    (h : Q (.ref s.heap.objs.size) { s with heap := s.heap.push { cls := .type "tuple", data := .seq ((items.toList.drop (sIx items.size 0 lo)).take (sIx items.size items.size hi - sIx items.size 0 lo)).toArray } })
    (hsz : items.size ≤ sizeLine) : wpAny (model prog w) A (getItem (.ref t) (.ref sl)) Q E s := by
  have htake : sizeOk (.seq ((items.toList.drop (sIx items.size 0 lo)).take (sIx items.size items.size hi - sIx items.size 0 lo)).toArray) := by
    show ((items.toList.drop (sIx items.size 0 lo)).take (sIx items.size items.size hi - sIx items.size 0 lo)).toArray.size ≤ sizeLine
    rw [List.size_toArray, List.length_take, List.length_drop, Array.length_toList]
    omega
  have hj : sIx items.size items.size hi ≤ items.size := sIx_le _ _ (Nat.le_refl _) hi
  obtain ⟨os, hos, hcs, hds⟩ := id hs
  have hTs : s.TypeIs (.ref sl) "slice" := ⟨os, hos, hcs⟩
  unfold getItem
  try with_reducible refine wpAny_holding ?_
  first | refine wpAny_bind (wpAny_pure ?_) | skip
  refine wpAny_bind (wpAny_sequenceKey ht.typeIs (by decide) ?_)
  refine wpAny_bind (wpAny_callSpecial?_slot (name := Str.ofString "__getitem__") ht.typeIs PyProof.Rows.slot_tuple_getitem
    (wpAny_call_entry PyProof.Rows.slot_tuple_getitem ht.typeIs entry_tuple_getitem ?_ (args_tuple_getitem _ _)))
  show wpAny _ _ (Builtin.Tuple.tupleItemsOf (.ref t) >>= _) _ _ s
  refine wpAny_bind (tupleItemsOf_ ht ?_)
  refine wpAny_bind (wpAny_typeOf hTs ?_)
  rw [if_pos (by decide)]
  refine wpAny_bind (sliceApplied_gen hs pl pu ?_)
  have hno : ¬ ((((sIx items.size 0 lo : Nat) : Int) == 0 && (1 : Int) == 1 && (sIx items.size items.size hi - sIx items.size 0 lo) == items.size) = true) := by
    intro q
    rw [Bool.and_eq_true, Bool.and_eq_true] at q
    have q1 : ((sIx items.size 0 lo : Nat) : Int) = 0 := eq_of_beq q.1.1
    have q2 : sIx items.size items.size hi - sIx items.size 0 lo = items.size := eq_of_beq q.2
    exact hw ⟨by omega, by omega⟩
  show wpAny _ _ (if (((sIx items.size 0 lo : Nat) : Int) == 0 && (1 : Int) == 1 && (sIx items.size items.size hi - sIx items.size 0 lo) == items.size) = true then _ else _) _ _ s
  rw [if_neg hno, pick_gen]
  first
    | exact wpAny_bind (m := Builtin.Tuple.tupleExact _) (wpAny_newObj_type (wpAny_pure ⟨_, rfl, wpAny_pure h⟩) htake)
    | exact wpAny_bind (m := Builtin.Tuple.tupleExact _) (wpAny_newObj_type (wpAny_bind (wpAny_pure (wpAny_pure ⟨_, rfl, wpAny_pure h⟩))) htake)
    | exact wpAny_bind (wpAny_bind (m := Builtin.Tuple.tupleExact _) (wpAny_newObj_type (wpAny_pure (wpAny_pure ⟨_, rfl, wpAny_pure h⟩)) htake))
    | exact wpAny_bind (wpAny_bind (m := Builtin.Tuple.tupleExact _) (wpAny_newObj_type (wpAny_pure ⟨_, rfl, wpAny_pure h⟩) htake))
end
end HT

namespace L2
open PySem PySem.Spec PyProof.Rows

/-! ### the parts of a slice -/
abbrev TO := St → Hp → (Option Int → Hp → Prop) → Prop
/-- a slice's part (left out, or an int) -/
def PO (X : Cx) (e : Option Expr) (t : TO) : Prop :=
  ∀ (pins : List (Addr × Obj)) (s : Shared) (σ : St) (H : Hp) (Q : Option Int → Hp → Prop), Inv X pins σ H s → t σ H Q →
    wpAny (model X.prog X.w) X.A (evalPart e X.env) (fun u s' => ∃ o H', Inv X pins σ H' s' ∧ IsPart u o ∧ Q o H') X.xe s
def tNoPart : TO := fun _ H Q => Q none H
def tPart (t : TE) : TO := fun σ H Q => t σ H fun x H1 => ∃ i, x = .int i ∧ Q (some i) H1

theorem intsAre_of {ns : List Int} : ∀ {us : List Value}, Vals (ns.map V.int) us → IntsAre us ns := by
  induction ns with
  | nil => intro us r; rw [List.map_nil] at r; cases r; exact .nil
  | cons n ns ih =>
    intro us r
    rw [List.map_cons] at r
    cases r with
    | cons r1 r2 =>
      obtain ⟨t, e⟩ := r1
      subst e
      exact .cons n t (ih r2)

section
variable {X : Cx} {e : Expr} {te : TE} {lo hi : Option Expr} {tl th : TO} {pos p2 : Pos}

theorem po_none : PO X none tNoPart := by
  intro pins s σ H Q I h
  rw [evalPart_none]
  exact wpAny_pure ⟨none, H, I, .none, h⟩
theorem po_some (h : PE X e te) : PO X (some e) (tPart te) := by
  intro pins s σ H Q I hw
  rw [evalPart_some]
  refine thn (h pins s σ H _ I hw) fun u s1 ⟨x, H1, I1, r1, q1⟩ => ?_
  obtain ⟨i, rfl, q⟩ := q1
  obtain ⟨t, rfl⟩ := r1
  exact ⟨some i, H1, I1, .int i t, q⟩

/-- what a slice of a value is, by values: the slice object stands at sl -/
def SlR (X : Cx) (r : V → Option Int → Option Int → Hp → VK → Prop) : Prop :=
  ∀ (pins : List (Addr × Obj)) (s : Shared) (σ : St) (H : Hp) (x : V) (v vl vu : Value) (lo hi : Option Int) (sl : Addr) (Q : VK), Inv X pins σ H s → RelV x v → s.heap.IsSliceOf sl vl vu .none → IsPart vl lo → IsPart vu hi → r x lo hi H Q →
    ∃ T id, typeLookup (.type T) "__getitem__" = pure (some (.builtin id)) ∧ s.TypeIs v T ∧ wpAny (model X.prog X.w) X.A (getItem v (.ref sl)) (EP X pins σ Q) X.xe s
theorem SlR.or {r r' : V → Option Int → Option Int → Hp → VK → Prop} (h : SlR X r) (h' : SlR X r') : SlR X (fun x lo hi H Q => r x lo hi H Q ∨ r' x lo hi H Q) := by
  intro pins s σ H x v vl vu lo hi sl Q I rx hs pl pu q
  rcases q with q | q
  · exact h pins s σ H x v vl vu lo hi sl Q I rx hs pl pu q
  · exact h' pins s σ H x v vl vu lo hi sl Q I rx hs pl pu q
def tSl (r : V → Option Int → Option Int → Hp → VK → Prop) (te : TE) (tl th : TO) : TE := fun σ H Q => te σ H fun x H1 => tl σ H1 fun l H2 => th σ H2 fun u H3 => r x l u H3 Q
/-- a[lo:hi], any a -/
theorem pe_slice {r : V → Option Int → Option Int → Hp → VK → Prop} (hr : SlR X r) (he : PE X e te) (hl : PO X lo tl) (hu : PO X hi th) : PE X (.Subscript e (.Slice lo hi none p2) pos) (tSl r te tl th) := by
  intro pins s σ H Q I h
  refine Subscript_ (thn (he pins s σ H _ I h) fun v s1 ⟨x, H1, I1, r1, q1⟩ => ?_)
  refine wpAny_Slice (thn (hl pins s1 σ H1 _ I1 q1) fun vl s2 ⟨l, H2, I2, pl, q2⟩ => thn (hu pins s2 σ H2 _ I2 q2) fun vu s3 ⟨u, H3, I3, pu, q3⟩ => ?_)
  rw [evalPart_none]
  refine wpAny_pure ?_
  have I4 : Inv X pins σ H3 { s3 with heap := s3.heap.push { cls := .type "slice", data := .fields #[vl, vu, .none] } } := I3.kept (t' := s3.toks) fun b ob q => Heap.get?_push_of_some _ q
  obtain ⟨T, id, hT, ht, hg⟩ := hr pins { s3 with heap := s3.heap.push { cls := .type "slice", data := .fields #[vl, vu, .none] } } σ H3 x v vl vu l u s3.heap.objs.size Q I4 r1 (Heap.IsSliceOf.new ..) pl pu q3
  show wpAny (model X.prog X.w) X.A (subscriptTail e (.Slice lo hi none p2) v (.ref s3.heap.objs.size)) (EP X pins σ Q) X.xe { s3 with heap := s3.heap.push { cls := .type "slice", data := .fields #[vl, vu, .none] } }
  exact tail_any (ops := [.ref s3.heap.objs.size, v]) ht hT hg (by with_unfolding_all rfl)

/-- the items of xs[lo:hi] -/
def cutV (xs : List V) (lo hi : Option Int) : List V := (xs.drop (HT.sIx xs.length 0 lo)).take (HT.sIx xs.length xs.length hi - HT.sIx xs.length 0 lo)
theorem cutV_length (xs : List V) (lo hi : Option Int) : (cutV xs lo hi).length ≤ xs.length := by
  unfold cutV
  rw [List.length_take, List.length_drop]
  omega
/-- t[lo:hi], not the whole of it (the whole would be t itself) -/
def rSlT (K : PySem.W.Frag) : V → Option Int → Option Int → Hp → VK → Prop := fun x lo hi H Q => ∃ a xs, x = .ref a ∧ SqT K H a xs ∧
  ¬ (HT.sIx xs.length 0 lo = 0 ∧ HT.sIx xs.length xs.length hi = xs.length) ∧ ∀ p, H p = none → Q (.ref p) (upd H p (.tup (cutV xs lo hi)))
theorem sl_tup : SlR X (rSlT X.K) := by
  intro pins s σ H x v vl vu lo hi sl Q I rx hs pl pu h
  obtain ⟨a, xs, rfl, hx, hw, q⟩ := h
  cases rx
  obtain ⟨its, r, ht, hz⟩ := I.tuple hx
  have hlen : its.toArray.size = xs.length := by rw [List.size_toArray]; exact r.length.symm
  refine ⟨"tuple", _, PyProof.Rows.slot_tuple_getitem.lookup, ht.typeIs, ?_⟩
  refine HT.getItem_tuple_cut ht hs pl pu (by rw [hlen]; exact hw) ?_ (by rw [hlen]; exact hz)
  rw [hlen]
  refine ⟨.ref s.heap.objs.size, _, I.laid (t' := s.toks) (o := .tup (cutV xs lo hi)) (fun b ob q => Heap.get?_push_of_some _ q) (Nat.le_refl _) ?_, rfl, q _ (I.hok.fresh (Nat.le_refl _))⟩
  exact ⟨Nat.le_trans (cutV_length xs lo hi) hz, _, (r.drop (HT.sIx xs.length 0 lo)).take (HT.sIx xs.length xs.length hi - HT.sIx xs.length 0 lo), IsTup.new _ _⟩

/-! ### t < u, t + u -/
def rLtT (K : PySem.W.Frag) : R2 := fun x y H Q => ∃ a b ns ms, x = .ref a ∧ y = .ref b ∧ SqT K H a (ns.map V.int) ∧ SqT K H b (ms.map V.int) ∧ Q (.bl (HT.lexLt ns ms)) H
theorem op_ltT (hu : X.A.units < cLine) : OpR X (compareOp .Lt) (rLtT X.K) := by
  intro pins s σ H x y v u Q I rx ry h
  obtain ⟨a, b, ns, ms, rfl, rfl, ha, hb, q⟩ := h
  cases rx
  cases ry
  obtain ⟨its, r1, p1, _⟩ := I.tuple ha
  obtain ⟨its2, r2, p2, _⟩ := I.tuple hb
  have i1 : IntsAre its.toArray.toList ns := intsAre_of r1
  have i2 : IntsAre its2.toArray.toList ms := intsAre_of r2
  exact HT.lt_tupInts p1 p2 i1 i2 hu ⟨.bl (HT.lexLt ns ms), H, I, rfl, q⟩
/-- t + u, t not empty: u empty gives t itself -/
def rCatT (K : PySem.W.Frag) : R2 := fun x y H Q => ∃ a b xs ys, x = .ref a ∧ y = .ref b ∧ SqT K H a xs ∧ SqT K H b ys ∧ xs ≠ [] ∧ xs.length + ys.length ≤ sizeLine ∧
  (ys = [] → Q (.ref a) H) ∧ (ys ≠ [] → ∀ p, H p = none → Q (.ref p) (upd H p (.tup (xs ++ ys))))
theorem Vals.nil_iff {xs : List V} {us : List Value} (r : Vals xs us) : us = [] ↔ xs = [] := by
  cases r with
  | nil => simp
  | cons _ _ => simp
theorem op_catT : OpR X (binaryOp .Add) (rCatT X.K) := by
  intro pins s σ H x y v u Q I rx ry h
  obtain ⟨a, b, xs, ys, rfl, rfl, ha, hb, hx, hz, q1, q2⟩ := h
  cases rx
  cases ry
  obtain ⟨its, r1, p1, _⟩ := I.tuple ha
  obtain ⟨its2, r2, p2, _⟩ := I.tuple hb
  refine HT.cat_tup p1 p2 (fun z => hx (r1.nil_iff.mp z)) (fun z => ⟨.ref a, H, I, rfl, q1 (r2.nil_iff.mp z)⟩) (fun z => ?_) (by rw [← r1.length, ← r2.length]; exact hz)
  refine ⟨.ref s.heap.objs.size, _, I.laid (t' := s.toks) (o := .tup (xs ++ ys)) (fun b ob q => Heap.get?_push_of_some _ q) (Nat.le_refl _) ?_, rfl, q2 (fun w => z (r2.nil_iff.mpr w)) _ (I.hok.fresh (Nat.le_refl _))⟩
  exact ⟨by rw [List.length_append]; exact hz, _, r1.append r2, IsTup.new _ _⟩
/-- tuple(t) -/
theorem call_tupleT : CallR X (.type "tuple") (fun xs H Q => ∃ a ys, xs = [.ref a] ∧ SqT X.K H a ys ∧ Q (.ref a) H) := by
  intro pins s σ H xs us Q I r h
  obtain ⟨a, ys, rfl, ha, q⟩ := h
  obtain ⟨u, rfl, ru⟩ := vals1 r
  cases ru
  obtain ⟨its, _, p1, _⟩ := I.tuple ha
  exact call_tuple_same (items := its.toArray) p1 ⟨.ref a, H, I, rfl, q⟩
end
end L2

namespace L2
open PySem PySem.Spec PyProof.Rows

/-! ### places -/
/-- the place that an index of any sign means -/
def ixN (n : Nat) (i : Int) : Option Nat := if 0 ≤ i then (if i < n then some i.toNat else none) else if -(n : Int) ≤ i then some (i + n).toNat else none
def atI {α : Type} (xs : List α) (i : Int) : Option α := (ixN xs.length i).bind fun j => xs[j]?
theorem ixN_seq {n : Nat} {i : Int} {j : Nat} (h : ixN n i = some j) : seqIndex? i n = some j ∧ j < n ∧ -(n : Int) ≤ i ∧ i < n := by
  unfold ixN at h
  by_cases h0 : 0 ≤ i
  · rw [if_pos h0] at h
    by_cases h1 : i < n
    · rw [if_pos h1] at h
      have e : i.toNat = j := Option.some.inj h
      exact ⟨by rw [seqIndex_of h0 h1, e], by omega, by omega, h1⟩
    · rw [if_neg h1] at h; cases h
  · rw [if_neg h0] at h
    by_cases h1 : -(n : Int) ≤ i
    · rw [if_pos h1] at h
      have e : (i + n).toNat = j := Option.some.inj h
      exact ⟨by rw [seqIndex_neg (by omega) h1, e], by omega, h1, by omega⟩
    · rw [if_neg h1] at h; cases h
theorem atI_get {α : Type} {xs : List α} {i : Int} {v : α} (h : atI xs i = some v) : ∃ j, seqIndex? i xs.length = some j ∧ xs[j]? = some v ∧ j < xs.length ∧ -(xs.length : Int) ≤ i ∧ i < xs.length := by
  unfold atI at h
  cases e : ixN xs.length i with
  | none => rw [e] at h; cases h
  | some j =>
    rw [e] at h
    obtain ⟨h1, h2, h3, h4⟩ := ixN_seq e
    exact ⟨j, h1, h, h2, h3, h4⟩
theorem atI_nat {α : Type} {xs : List α} {j : Nat} {v : α} (h : xs[j]? = some v) : atI xs (j : Int) = some v := by
  have hj : j < xs.length := (List.getElem?_eq_some_iff.mp h).1
  have e : ixN xs.length (j : Int) = some j := by
    unfold ixN
    rw [if_pos (by omega), if_pos (by omega)]; simp
  unfold atI; rw [e]; exact h
theorem atI_last {α : Type} (xs : List α) (v : α) : atI (xs ++ [v]) (-1) = some v := by
  have hl : (xs ++ [v]).length = xs.length + 1 := by simp
  have e : ixN (xs ++ [v]).length (-1) = some xs.length := by
    unfold ixN
    rw [hl, if_neg (by decide), if_pos (by omega)]
    congr 1
    omega
  unfold atI
  rw [e]
  show (xs ++ [v])[xs.length]? = some v
  simp

/-! ### what may be subscripted -/
/-- what stands as an index of a plain subscript -/
def PlainIx (b : Expr) : Prop := ∀ o i, subscripted b false o i = operate [o, i] (getItem o i)
/-- a subscript by values -/
def IxR (X : Cx) (r : R2) : Prop :=
  ∀ (value slice : Expr) (pins : List (Addr × Obj)) (s : Shared) (σ : St) (H : Hp) (x y : V) (v u : Value) (Q : VK), Inv X pins σ H s → RelV x v → RelV y u → r x y H Q →
    subscripted slice false v u = operate [v, u] (getItem v u) → wpAny (model X.prog X.w) X.A (subscriptTail value slice v u) (EP X pins σ Q) X.xe s
/-- a call of a builtin's method by values: the receiver, the arguments -/
def MtR (X : Cx) (id : String) (r : V → List V → Hp → VK → Prop) : Prop :=
  ∀ (pins : List (Addr × Obj)) (s : Shared) (σ : St) (H : Hp) (x : V) (xs : List V) (v : Value) (us : List Value) (Q : VK), Inv X pins σ H s → RelV x v → Vals xs us → r x xs H Q →
    wpAny (model X.prog X.w) X.A (call (.builtin id) (v :: us)) (EP X pins σ Q) X.xe s
section
variable {X : Cx} {a b : Expr} {ta tb : TE} {pos : Pos}
theorem IxR.or {r r' : R2} (h : IxR X r) (h' : IxR X r') : IxR X (fun x y H Q => r x y H Q ∨ r' x y H Q) := by
  intro value slice pins s σ H x y v u Q I rx ry q hs
  rcases q with q | q
  · exact h value slice pins s σ H x y v u Q I rx ry q hs
  · exact h' value slice pins s σ H x y v u Q I rx ry q hs
theorem MtR.or {id : String} {r r' : V → List V → Hp → VK → Prop} (h : MtR X id r) (h' : MtR X id r') : MtR X id (fun x xs H Q => r x xs H Q ∨ r' x xs H Q) := by
  intro pins s σ H x xs v us Q I rx rs q
  rcases q with q | q
  · exact h pins s σ H x xs v us Q I rx rs q
  · exact h' pins s σ H x xs v us Q I rx rs q
/-- a[b] -/
theorem pe_ix {r : R2} (hr : IxR X r) (ha : PE X a ta) (hb : PE X b tb) (hs : PlainIx b) : PE X (.Subscript a b pos) (tOp r ta tb) := by
  intro pins s σ H Q I h
  exact Subscript_ (binT ha hb I h fun v u s2 x y H2 I2 rx ry q => hr a b pins s2 σ H2 x y v u Q I2 rx ry q (hs _ _))

def rIxL (K : PySem.W.Frag) : R2 := fun x y H Q => ∃ p xs i v, x = .ref p ∧ y = .int i ∧ SqL K H p xs ∧ atI xs i = some v ∧ Q v H
def rIxT (K : PySem.W.Frag) : R2 := fun x y H Q => ∃ p xs i v, x = .ref p ∧ y = .int i ∧ SqT K H p xs ∧ atI xs i = some v ∧ Q v H
def rIxS : R2 := fun x y H Q => ∃ z i c, x = .str z ∧ y = .int i ∧ z.length ≤ sizeLine ∧ atI z.cps.toList i = some c ∧ Q (.str ⟨#[c]⟩) H
theorem ix_list : IxR X (rIxL X.K) := by
  intro value slice pins s σ H x y v u Q I rx ry h hs
  obtain ⟨p, xs, i, z, rfl, rfl, hq, he, q⟩ := h
  cases rx
  obtain ⟨t, rfl⟩ := ry
  obtain ⟨its, r, pl, hz⟩ := I.list hq
  obtain ⟨j, h1, h2, h3, h4, h5⟩ := atI_get he
  obtain ⟨w, ew, rw'⟩ := r.get h2
  have hl := r.length
  have hn := line63
  have fin : EP X pins σ Q w s := ⟨z, H, I, rw', q⟩
  by_cases h0 : 0 ≤ i
  · have hj : i.toNat = j := by
      rw [seqIndex_of h0 h5] at h1
      exact Option.some.inj h1
    exact item_listR pl.isList h0 (by omega) (by rw [hj]; simpa using ew) fin hs
  · have hj : (i + (its.toArray.size : Int)).toNat = j := by
      rw [seqIndex_neg (by omega) h4] at h1
      rw [List.size_toArray, ← hl]
      exact Option.some.inj h1
    exact subscriptTail_builtinR (x := w) pl.isList.typeIs slot_list_getitem.lookup
      (wpAny_getItem_list_neg (Q := fun r s' => r = w ∧ EP X pins σ Q r s') pl.isList (by omega) (by rw [List.size_toArray] <;> omega) (by omega) (by rw [hj]; simpa using ew) ⟨rfl, fin⟩) hs
theorem ix_tup : IxR X (rIxT X.K) := by
  intro value slice pins s σ H x y v u Q I rx ry h hs
  obtain ⟨p, xs, i, z, rfl, rfl, hq, he, q⟩ := h
  cases rx
  obtain ⟨t, rfl⟩ := ry
  obtain ⟨its, r, pl, hz⟩ := I.tuple hq
  obtain ⟨j, h1, h2, h3, h4, h5⟩ := atI_get he
  obtain ⟨w, ew, rw'⟩ := r.get h2
  have hl := r.length
  have hn := line63
  have fin : EP X pins σ Q w s := ⟨z, H, I, rw', q⟩
  exact subscriptTail_builtinR (x := w) pl.typeIs slot_tuple_getitem.lookup
    (getItem_tuple (j := j) (Q := fun r s' => r = w ∧ EP X pins σ Q r s') pl (by omega) (by omega) (by rw [List.size_toArray, ← hl]; exact h1) (by simpa using ew) ⟨rfl, fin⟩) hs
theorem ix_str : IxR X rIxS := by
  intro value slice pins s σ H x y v u Q I rx ry h hs
  obtain ⟨z, i, c, rfl, rfl, hz, he, q⟩ := h
  obtain ⟨t, rfl⟩ := rx
  obtain ⟨t', rfl⟩ := ry
  obtain ⟨j, h1, h2, h3, h4, h5⟩ := atI_get he
  have hl : z.cps.toList.length = z.length := by simp [Str.length]
  rw [hl] at h1 h4 h5
  have hn := line63
  exact tail_any (typeIs_str s z t) slot_str_getitem.lookup (getItem_str (c := c) (by
    have e1 : decide (i < -(2 ^ 63 : Int)) = false := decide_eq_false (by omega)
    have e2 : decide (i ≥ 2 ^ 63) = false := decide_eq_false (by omega)
    rw [e1, e2, Bool.or_false]) (by rw [h1]; simpa using h2) ⟨.str ⟨#[c]⟩, H, I.tok _, ⟨_, rfl⟩, q⟩) hs
/-- list, tuple or str -/
def rIx (K : PySem.W.Frag) : R2 := fun x y H Q => rIxL K x y H Q ∨ rIxT K x y H Q ∨ rIxS x y H Q
theorem ix_seq : IxR X (rIx X.K) := ix_list.or (ix_tup.or ix_str)

/-! ### xs[i] = v, any sign -/
/-- the list's object behind a store -/
theorem mapSeq_set (its : List Value) (n j : Nat) (u : Value) : Obj.mapSeq (·.setIfInBounds j u) { cls := .type "list", data := .seq its.toArray n } = { cls := .type "list", data := .seq (its.set j u).toArray n } := by
  simp [Obj.mapSeq]
theorem Inv.lst {pins : List (Addr × Obj)} {σ : St} {H : Hp} {s : Shared} {p : Addr} {xs : List V} (I : Inv X pins σ H s) (h : H p = some (.lst xs)) :
    ∃ (its : List Value) (n : Nat), Vals xs its ∧ s.heap.get? p = some { cls := .type "list", data := .seq its.toArray n } ∧ xs.length ≤ sizeLine := by
  obtain ⟨z, its, n, r, e⟩ := I.hok p _ h
  exact ⟨its, n, r, e, z⟩
/-- the list at p is written by an update of its object -/
theorem Inv.lstUpd {pins : List (Addr × Obj)} {σ : St} {H : Hp} {s : Shared} {p : Addr} {xs ys : List V} {its its' : List Value} {n n' : Nat} {f : Obj → Obj} (I : Inv X pins σ H s) (h : H p = some (.lst xs))
    (ho : s.heap.get? p = some { cls := .type "list", data := .seq its.toArray n }) (hf : f { cls := .type "list", data := .seq its.toArray n } = { cls := .type "list", data := .seq its'.toArray n' }) (r : Vals ys its') (hz : ys.length ≤ sizeLine) (t : Nat) :
    Inv X pins σ (upd H p (.lst ys)) { s with heap := s.heap.update p f, toks := t } := by
  have e : (s.heap.update p f).get? p = some { cls := .type "list", data := .seq its'.toArray n' } := by
    rw [Heap.get?_update_self f ho (by rw [hf] <;> rfl), hf]
  refine I.write (x := p) (e := p) (by rw [h]; trivial) (.inl rfl) (fun b u hb q => (Heap.get?_update_other _ _ (Ne.symm hb)).trans q) ⟨_, e⟩ ?_
  exact ⟨hz, its', n', r, e⟩
def rSetL : V → V → V → Hp → (Hp → Prop) → Prop := fun o i v H Q => ∃ p xs k j, o = .ref p ∧ i = .int k ∧ H p = some (.lst xs) ∧ ixN xs.length k = some j ∧ Q (upd H p (.lst (xs.set j v)))
theorem set_list : PSet X rSetL := by
  intro pins s σ H o i v ov iv u Q I ro ri rv h
  obtain ⟨p, xs, k, j, rfl, rfl, hp, hj, q⟩ := h
  cases ro
  obtain ⟨t, rfl⟩ := ri
  obtain ⟨its, n, r, ho, hz⟩ := I.lst hp
  obtain ⟨h1, h2, h3, h4⟩ := ixN_seq hj
  have hl := r.length
  have hn := line63
  have I' : Inv X pins σ (upd H p (.lst (xs.set j v))) { s with heap := s.heap.update p (Obj.mapSeq (·.setIfInBounds j u)) } :=
    I.lstUpd hp ho (mapSeq_set its n j u) (r.set rv j) (by rw [List.length_set]; exact hz) s.toks
  by_cases h0 : 0 ≤ k
  · have hk : k.toNat = j := by
      rw [seqIndex_of h0 h4] at h1
      exact Option.some.inj h1
    exact PySem.W.ki_setAt ho h0 (by omega) (by rw [List.size_toArray, ← hl]; exact h4) (by rw [hk]; exact ⟨_, I', q⟩)
  · have hk : (k + (its.toArray.size : Int)).toNat = j := by
      rw [seqIndex_neg (by omega) h3] at h1
      rw [List.size_toArray, ← hl]
      exact Option.some.inj h1
    exact PySem.W.ki_setBack ho (by omega) (by rw [List.size_toArray, ← hl]; exact h3) (by omega) (by rw [hk]; exact ⟨_, I', q⟩)

/-! ### slices -/
theorem slice_bounds (lo hi : Option Int) (n : Nat) : (sliceBounds lo hi none n).1 = ((HT.sIx n 0 lo : Nat) : Int) ∧ (sliceBounds lo hi none n).2.1 = ((HT.sIx n n hi : Nat) : Int) ∧ (sliceBounds lo hi none n).2.2 = 1 := by
  refine ⟨?_, ?_, rfl⟩
  · cases lo with
    | none => simp [sliceBounds, HT.sIx]
    | some i =>
      simp only [sliceBounds, HT.sIx, Option.getD_none, show (1 : Int) > 0 by decide, if_true]
      by_cases h : i < 0
      · simp only [h, if_true] <;> omega
      · simp only [h, if_false] <;> omega
  · cases hi with
    | none => simp [sliceBounds, HT.sIx]
    | some i =>
      simp only [sliceBounds, HT.sIx, Option.getD_none, show (1 : Int) > 0 by decide, if_true]
      by_cases h : i < 0
      · simp only [h, if_true] <;> omega
      · simp only [h, if_false] <;> omega
theorem slicePick_cut (its : List Value) (lo hi : Option Int) : slicePick its.toArray lo hi none = ((its.drop (HT.sIx its.length 0 lo)).take (HT.sIx its.length its.length hi - HT.sIx its.length 0 lo)).toArray := by
  obtain ⟨h1, h2, h3⟩ := slice_bounds lo hi its.toArray.size
  unfold slicePick
  rw [h1, h2, h3]
  simp only [sliceRange_one, pick_run, List.size_toArray] <;> rfl
/-- xs[lo:hi] of a list: a new list -/
def rSlL (K : PySem.W.Frag) : V → Option Int → Option Int → Hp → VK → Prop := fun x lo hi H Q => ∃ a xs, x = .ref a ∧ SqL K H a xs ∧ ∀ p, H p = none → Q (.ref p) (upd H p (.lst (cutV xs lo hi)))
theorem sl_list : SlR X (rSlL X.K) := by
  intro pins s σ H x v vl vu lo hi sl Q I rx hs pl pu h
  obtain ⟨a, xs, rfl, hx, q⟩ := h
  cases rx
  obtain ⟨its, r, ht, hz⟩ := I.list hx
  have hlen := r.length
  refine ⟨"list", _, slot_list_getitem.lookup, ht.isList.typeIs, ?_⟩
  refine wpAny_getItem_list_slice ht.isList hs pl pu .none (by simp) ?_ (by rw [List.size_toArray] <;> omega)
  rw [slicePick_cut, ← hlen]
  refine ⟨.ref s.heap.objs.size, _, I.laid (t' := s.toks) (o := .lst (cutV xs lo hi)) (fun b ob q => Heap.get?_push_of_some _ q) (Nat.le_refl _) ?_, rfl, q _ (I.hok.fresh (Nat.le_refl _))⟩
  exact ⟨Nat.le_trans (cutV_length xs lo hi) hz, _, 0, (r.drop (HT.sIx xs.length 0 lo)).take (HT.sIx xs.length xs.length hi - HT.sIx xs.length 0 lo), Heap.get?_push_size _ rfl⟩

/-! ### in, not in: flat items -/
def flatV : V → Bool
  | .non => true
  | .bl _ => true
  | .int _ => true
  | .str _ => true
  | _ => false
/-- == of flat values -/
def eqV : V → V → Bool
  | .non, .non => true
  | .bl a, .bl b => a == b
  | .bl a, .int b => (if a then 1 else 0) == b
  | .int a, .bl b => a == (if b then 1 else 0)
  | .int a, .int b => a == b
  | .str a, .str b => a == b
  | _, _ => false
theorem eqAt_V {A : Around} {s : Shared} {y x : V} {u v : Value} (ry : RelV y u) (rx : RelV x v) (fy : flatV y = true) (fx : flatV x = true) : SeqAt.EqAt A s u v (eqV y x) := by
  cases y with
  | non =>
    cases ry
    cases x with
    | non => cases rx; exact SeqAt.EqAt.same _
    | bl b => cases rx; exact SeqAt.EqAt.none_bool b
    | int b => obtain ⟨t, rfl⟩ := rx; exact SeqAt.EqAt.none_int b t
    | str b => obtain ⟨t, rfl⟩ := rx; exact SeqAt.EqAt.none_str b t
    | _ => exact absurd (show false = true from fx) Bool.false_ne_true
  | bl a =>
    cases ry
    cases x with
    | non => cases rx; exact SeqAt.EqAt.bool_none a
    | bl b => cases rx; exact SeqAt.EqAt.bool_bool a b
    | int b => obtain ⟨t, rfl⟩ := rx; exact SeqAt.EqAt.bool_int a b t
    | str b => obtain ⟨t, rfl⟩ := rx; exact SeqAt.EqAt.bool_str a b t
    | _ => exact absurd (show false = true from fx) Bool.false_ne_true
  | int a =>
    obtain ⟨t', rfl⟩ := ry
    cases x with
    | non => cases rx; exact SeqAt.EqAt.int_none a t'
    | bl b => cases rx; exact SeqAt.EqAt.int_bool a t' b
    | int b => obtain ⟨t, rfl⟩ := rx; exact SeqAt.EqAt.int_int a t' b t
    | str b => obtain ⟨t, rfl⟩ := rx; exact SeqAt.EqAt.int_str a t' b t
    | _ => exact absurd (show false = true from fx) Bool.false_ne_true
  | str a =>
    obtain ⟨t', rfl⟩ := ry
    cases x with
    | non => cases rx; exact SeqAt.EqAt.str_none a t'
    | bl b => cases rx; exact SeqAt.EqAt.str_bool a t' b
    | int b => obtain ⟨t, rfl⟩ := rx; exact SeqAt.EqAt.str_int a t' b t
    | str b => obtain ⟨t, rfl⟩ := rx; exact SeqAt.EqAt.str_str a t' b t
    | _ => exact absurd (show false = true from fx) Bool.false_ne_true
  | _ => exact absurd (show false = true from fy) Bool.false_ne_true
/-- the items' answers, read off the values (a value's own answer does not lean on its token) -/
def eqU (x : V) (u : Value) : Bool := match u with
  | .none => eqV .non x
  | .bool b => eqV (.bl b) x
  | .int i _ => eqV (.int i) x
  | .str z _ => eqV (.str z) x
  | _ => false
theorem eqU_of {x y : V} {u : Value} (r : RelV y u) (f : flatV y = true) : eqU x u = eqV y x := by
  cases y with
  | non => cases r; rfl
  | bl b => cases r; rfl
  | int i => obtain ⟨t, rfl⟩ := r; rfl
  | str z => obtain ⟨t, rfl⟩ := r; rfl
  | _ => exact absurd (show false = true from f) Bool.false_ne_true
theorem any_eqU {x : V} : ∀ {xs : List V} {us : List Value}, Vals xs us → xs.all flatV = true → us.any (eqU x) = xs.any fun y => eqV y x
  | _, _, .nil, _ => rfl
  | y :: xs, u :: us, .cons r t, f => by
    rw [List.all_cons, Bool.and_eq_true] at f
    rw [List.any_cons, List.any_cons, eqU_of r f.1, any_eqU t f.2]
theorem mem_eqAt {A : Around} {s : Shared} {x : V} {v : Value} (rx : RelV x v) (fx : flatV x = true) : ∀ {xs : List V} {us : List Value}, Vals xs us → xs.all flatV = true → ∀ u ∈ us, SeqAt.EqAt A s u v (eqU x u)
  | _, _, .nil, _ => fun u hu => by cases hu
  | y :: xs, u :: us, .cons r t, f => fun u' hu => by
    rw [List.all_cons, Bool.and_eq_true] at f
    rcases List.mem_cons.mp hu with rfl | hu
    · rw [eqU_of r f.1]; exact eqAt_V r rx f.1 fx
    · exact mem_eqAt rx fx t f.2 u' hu
def inV (x : V) (xs : List V) : Bool := xs.any fun y => eqV y x
/-- x in a list or tuple of flat items -/
def rIn (K : PySem.W.Frag) (neg : Bool) : R2 := fun x y H Q => ∃ p xs, y = .ref p ∧ (SqL K H p xs ∨ SqT K H p xs) ∧ flatV x = true ∧ xs.all flatV = true ∧ Q (.bl (if neg then !inV x xs else inV x xs)) H
theorem op_in_seq : OpR X (compareOp .In) (rIn X.K false) := by
  intro pins s σ H x y v u Q I rx ry h
  obtain ⟨p, xs, rfl, hq, fx, fs, q⟩ := h
  cases ry
  rcases hq with hq | hq
  · obtain ⟨its, r, pl, hz⟩ := I.list hq
    refine SeqAt.in_listAt (eqU x) pl.isList (fun w hw => mem_eqAt rx fx r fs w (by simpa using hw)) ⟨.bl _, H, I, rfl, ?_⟩
    rw [show its.toArray.any (eqU x) = its.any (eqU x) by simp, any_eqU r fs]
    exact q
  · obtain ⟨its, r, pl, hz⟩ := I.tuple hq
    refine SeqAt.in_tupleAt (eqU x) pl (fun w hw => mem_eqAt rx fx r fs w (by simpa using hw)) ⟨.bl _, H, I, rfl, ?_⟩
    rw [show its.toArray.any (eqU x) = its.any (eqU x) by simp, any_eqU r fs]
    exact q
theorem op_notIn_seq : OpR X (compareOp .NotIn) (rIn X.K true) := by
  intro pins s σ H x y v u Q I rx ry h
  obtain ⟨p, xs, rfl, hq, fx, fs, q⟩ := h
  cases ry
  rcases hq with hq | hq
  · obtain ⟨its, r, pl, hz⟩ := I.list hq
    refine SeqAt.notIn_listAt (eqU x) pl.isList (fun w hw => mem_eqAt rx fx r fs w (by simpa using hw)) ⟨.bl _, H, I, rfl, ?_⟩
    rw [show its.toArray.any (eqU x) = its.any (eqU x) by simp, any_eqU r fs]
    exact q
  · obtain ⟨its, r, pl, hz⟩ := I.tuple hq
    refine SeqAt.notIn_tupleAt (eqU x) pl (fun w hw => mem_eqAt rx fx r fs w (by simpa using hw)) ⟨.bl _, H, I, rfl, ?_⟩
    rw [show its.toArray.any (eqU x) = its.any (eqU x) by simp, any_eqU r fs]
    exact q
theorem op_notIn_str : OpR X (compareOp .NotIn) (fun x y H Q => ∃ i j, x = .str i ∧ y = .str j ∧ Q (.bl (!(!(Builtin.Str.occurrences j i 0 j.length 1).isEmpty))) H) := by
  intro pins s σ H x y v u Q I rx ry h
  obtain ⟨i, j, rfl, rfl, q⟩ := h
  obtain ⟨t, rfl⟩ := rx
  obtain ⟨t', rfl⟩ := ry
  exact notIn_str ⟨.bl _, H, I, rfl, q⟩

/-! ### len, list(x), tuple(x) of any list or tuple that is read -/
theorem call_len_seq : CallR X (.builtin "len") (fun xs H Q => ∃ p ys, xs = [.ref p] ∧ (SqL X.K H p ys ∨ SqT X.K H p ys) ∧ Q (.int ys.length) H) := by
  intro pins s σ H xs us Q I r h
  obtain ⟨p, ys, rfl, hq, q⟩ := h
  obtain ⟨u, rfl, rx⟩ := vals1 r
  cases rx
  have hn := line63
  rcases hq with hq | hq
  · obtain ⟨its, r', pl, hz⟩ := I.list hq
    have hlen := r'.length
    exact Calls.call_len_list pl.isList (by simp only [List.size_toArray] <;> omega) ⟨.int ys.length, H, I.tok _, ⟨s.toks + 1, by rw [List.size_toArray, hlen]⟩, q⟩
  · obtain ⟨its, r', pl, hz⟩ := I.tuple hq
    have hlen := r'.length
    exact len_tuple pl (by simp only [List.size_toArray] <;> omega) ⟨.int ys.length, H, I.tok _, ⟨s.toks + 1, by rw [List.size_toArray, hlen]⟩, q⟩
theorem call_len_str : CallR X (.builtin "len") (fun xs H Q => ∃ z, xs = [.str z] ∧ z.length ≤ sizeLine ∧ Q (.int z.length) H) := by
  intro pins s σ H xs us Q I r h
  obtain ⟨z, rfl, hz, q⟩ := h
  obtain ⟨u, rfl, t, rfl⟩ := vals1 r
  have hn := line63
  exact len_str (by omega) ⟨.int z.length, H, I.tok _, ⟨_, rfl⟩, q⟩
theorem CallR.or {f : Value} {r r' : List V → Hp → VK → Prop} (h : CallR X f r) (h' : CallR X f r') : CallR X f (fun xs H Q => r xs H Q ∨ r' xs H Q) := by
  intro pins s σ H xs us Q I rs q
  rcases q with q | q
  · exact h pins s σ H xs us Q I rs q
  · exact h' pins s σ H xs us Q I rs q
theorem call_list_of : CallR X (.type "list") (fun xs H Q => ∃ p ys, xs = [.ref p] ∧ (SqL X.K H p ys ∨ SqT X.K H p ys) ∧ ∀ l, H l = none → Q (.ref l) (upd H l (.lst ys))) := by
  intro pins s σ H xs us Q I r h
  obtain ⟨p, ys, rfl, hq, q⟩ := h
  obtain ⟨u, rfl, rx⟩ := vals1 r
  cases rx
  have fin : ∀ (its : List Value), Vals ys its → ys.length ≤ sizeLine → ∀ (h' : Heap) (c' : Nat), (∀ b o', s.heap.get? b = some o' → h'.get? b = some o') →
      h'.get? s.heap.objs.size = some { cls := .type "list", dict := none, data := .seq its.toArray c', slots := #[] } → EP X pins σ Q (.ref s.heap.objs.size) { s with heap := h' } := fun its r' hz h' c' kp e =>
    ⟨.ref s.heap.objs.size, _, I.laid (t' := s.toks) kp (Nat.le_refl _) (show ObjOk X.prog X.w _ h' _ (.lst ys) from ⟨hz, its, c', r', e⟩), rfl, q _ (I.hok.fresh (Nat.le_refl _))⟩
  rcases hq with hq | hq
  · obtain ⟨its, r', pl, hz⟩ := I.list hq
    have hlen := r'.length
    obtain ⟨o, ho, hc, n, hd⟩ := pl.isList
    exact call_list_seq p (.inl rfl) ho hc hd (fun h' c' kp e => fin its r' hz h' c' kp e) (by simp only [List.size_toArray] <;> omega)
  · obtain ⟨its, r', pl, hz⟩ := I.tuple hq
    have hlen := r'.length
    obtain ⟨o, ho, hc, n, hd⟩ := pl
    exact call_list_seq p (.inr rfl) ho hc hd (fun h' c' kp e => fin its r' hz h' c' kp e) (by simp only [List.size_toArray] <;> omega)
theorem call_tuple_of : CallR X (.type "tuple") (fun xs H Q => ∃ p ys, xs = [.ref p] ∧ ((SqL X.K H p ys ∧ ∀ l, H l = none → Q (.ref l) (upd H l (.tup ys))) ∨ (SqT X.K H p ys ∧ Q (.ref p) H))) := by
  intro pins s σ H xs us Q I r h
  obtain ⟨p, ys, rfl, h⟩ := h
  obtain ⟨u, rfl, rx⟩ := vals1 r
  cases rx
  rcases h with ⟨hq, q⟩ | ⟨hq, q⟩
  · obtain ⟨its, r', pl, hz⟩ := I.list hq
    have hlen := r'.length
    refine call_tuple_list pl.isList (fun h' kp => ?_) (by simp only [List.size_toArray] <;> omega)
    have I1 : Inv X pins σ H { s with heap := h' } := I.kept (t' := s.toks) kp
    have I2 : Inv X pins σ (upd H h'.objs.size (.tup ys)) { s with heap := h'.push { cls := .type "tuple", data := .seq its.toArray } } :=
      I1.laid (t' := s.toks) (fun b o e => Heap.get?_push_of_some _ e) (Nat.le_refl _) (show ObjOk X.prog X.w _ _ _ (.tup ys) from ⟨hz, its, r', IsTup.new _ _⟩)
    exact ⟨.ref h'.objs.size, _, I2, rfl, q _ (I1.hok.fresh (Nat.le_refl _))⟩
  · obtain ⟨its, r', pl, hz⟩ := I.tuple hq
    exact call_tuple_same pl ⟨.ref p, H, I, rfl, q⟩

/-! ### the call of a builtin's method: o.m(..) -/
/-- the value is of that builtin type -/
def tyV (K : PySem.W.Frag) (T : String) (x : V) (H : Hp) : Prop := match x with
  | .str _ => T = "str"
  | .int _ => T = "int"
  | .ref p => (T = "list" ∧ ∃ xs, SqL K H p xs) ∨ (T = "tuple" ∧ ∃ o, K.lookup p = some o ∧ o.cls = .type "tuple" ∧ o.dict = none) ∨
      (T = "dict" ∧ ((∃ kvs, H p = some (.dK kvs)) ∨ ∃ kvs, H p = some (.dT kvs))) ∨ (T = "set" ∧ ∃ S n, H p = some (.set S n))
  | _ => False
theorem tyV_is {pins : List (Addr × Obj)} {σ : St} {H : Hp} {s : Shared} {T : String} {x : V} {v : Value} (I : Inv X pins σ H s) (r : RelV x v) (ty : tyV X.K T x H) :
    s.TypeIs v T ∧ ∀ a, v = .ref a → ∃ ob, s.heap.get? a = some ob ∧ ob.dict = none := by
  cases x with
  | str z =>
    obtain ⟨t, rfl⟩ := r
    cases (show T = "str" from ty)
    exact ⟨typeIs_str s z t, fun _ e => nomatch e⟩
  | int i =>
    obtain ⟨t, rfl⟩ := r
    cases (show T = "int" from ty)
    exact ⟨typeIs_int s i t, fun _ e => nomatch e⟩
  | ref p =>
    cases r
    rcases ty with ⟨rfl, xs, hq⟩ | ⟨rfl, o, hk, hc, hd⟩ | ⟨rfl, hk⟩ | ⟨rfl, S, n, hk⟩
    · obtain ⟨its, _, pl, _⟩ := I.list hq
      refine ⟨pl.isList.typeIs, fun a e => ?_⟩
      cases e
      obtain ⟨o, n, e, c, hd, _⟩ := pl
      exact ⟨o, e, hd⟩
    · refine ⟨⟨o, I.kIn p o hk, hc⟩, fun a e => ?_⟩
      cases e
      exact ⟨o, I.kIn _ o hk, hd⟩
    · have z : ∃ o, s.heap.get? p = some o ∧ o.ExactDict := by
        rcases hk with ⟨kvs, hk⟩ | ⟨kvs, hk⟩
        · obtain ⟨_, _, _, _, o, _, _, e, ex, _⟩ := I.hok p _ hk
          exact ⟨o, e, ex⟩
        · obtain ⟨_, _, _, _, o, _, _, e, ex, _⟩ := I.hok p _ hk
          exact ⟨o, e, ex⟩
      obtain ⟨o, e, ex⟩ := z
      refine ⟨⟨o, e, ex.1⟩, fun a e2 => ?_⟩
      cases e2
      exact ⟨o, e, ex.2.1⟩
    · obtain ⟨o, _, _, _, e, ex, _⟩ := I.hok p _ hk
      refine ⟨⟨o, e, ex.1⟩, fun a e2 => ?_⟩
      cases e2
      exact ⟨o, e, ex.2.1⟩
  | _ => exact False.elim ty
def tBM0 (K : PySem.W.Frag) (T : String) (r : V → List V → Hp → VK → Prop) (to : TE) : TE := fun σ H Q => to σ H fun x H1 => tyV K T x H1 ∧ r x [] H1 Q
def tBM (K : PySem.W.Frag) (T : String) (r : V → List V → Hp → VK → Prop) (to : TE) (t : TA) : TE := fun σ H Q => to σ H fun x H1 => tyV K T x H1 ∧ t σ H1 fun xs H2 => r x xs H2 Q
variable {o e : Expr} {es : List Expr} {to : TE} {t : TA} {name : Str} {apos cpos : Pos} {T id : String} {r : V → List V → Hp → VK → Prop}
theorem pe_bm0 (pa : PlainAttrs T) (slot : Slot T name id) (hty : typeOf (.builtin id) = pure (.type "method_descriptor")) (hm : MtR X id r) (ho : PE X o to)
    (hbase : attributeBase o name X.env (eval o X.env) = eval o X.env := by rfl) (hline : (apos.endLine == cpos.line) = true := by rfl) : PE X (.Call (.Attribute o name apos) [] [] cpos) (tBM0 X.K T r to) := by
  intro pins s σ H Q I h
  refine wpAny_Call_method0_late hbase hline (thn (ho pins s σ H _ I h) fun v s1 ⟨x, H1, I1, r1, ty, q1⟩ => ?_)
  obtain ⟨h1, h2⟩ := tyV_is I1 r1 ty
  exact ⟨T, id, pa, slot, hty, h1, h2, Calls.callWith_builtin rfl (PySem.evalArgs_none (hm pins s1 σ H1 x [] v [] Q I1 r1 .nil q1))⟩
theorem pe_bm (pa : PlainAttrs T) (slot : Slot T name id) (hty : typeOf (.builtin id) = pure (.type "method_descriptor")) (hm : MtR X id r) (ho : PE X o to) (ha : PA X (e :: es) t)
    (hbase : attributeBase o name X.env (eval o X.env) = eval o X.env := by rfl)
    (hfew : ((backTo cpos (starEach (e :: es) X.env)).all (fun x => !x.1) && (backToKw cpos (keywordEach [] X.env)).all (fun x => x.1.isSome)
      && decide ((e :: es).length + ([] : List Keyword).length + (if ([] : List Keyword).isEmpty then 0 else 1) < 30)) = true := by rfl)
    (hline : (apos.endLine == cpos.line) = true := by rfl) (hs : starEach (e :: es) X.env = (false, eval e X.env) :: starEach es X.env := by rfl) (hplain : (backTo cpos (starEach es X.env)).any (·.1) = false := by rfl) :
    PE X (.Call (.Attribute o name apos) (e :: es) [] cpos) (tBM X.K T r to t) := by
  intro pins s σ H Q I h
  refine wpAny_Call_method_late hbase hfew hline rfl (thn (ho pins s σ H _ I h) fun v s1 ⟨x, H1, I1, r1, ty, q1⟩ => ?_)
  obtain ⟨h1, h2⟩ := tyV_is I1 r1 ty
  refine ⟨T, id, pa, slot, hty, h1, h2, ?_⟩
  have hA := ha cpos pins s1 σ H1 _ I1 q1
  rw [hs] at hA ⊢
  refine Calls.callWith_builtin (by show (false || (backTo cpos (starEach es X.env)).any (·.1)) = false; rw [hplain] <;> rfl) (Calls.evalArgs_plain ?_)
  exact thn hA fun us s2 ⟨vs, H2, I2, r2, q2⟩ => hm pins s2 σ H2 x vs v us Q I2 r1 r2 q2
/- xs.append(e), list.index on a module's tuple .. are MtR facts of 06m -/
end
end L2

namespace L2
open PySem PySem.Spec PyProof.Rows

def MtM (X : Cx) (id : String) (r : V → List V → Hp → VK → Prop) : Prop :=
  ∀ (pins : List (Addr × Obj)) (s : Shared) (σ : St) (H : Hp) (x : V) (xs : List V) (v : Value) (us : List Value) (Q : VK), Inv X pins σ H s → RelV x v → Vals xs us → r x xs H Q →
    wpAny (model X.prog X.w) X.A (call (.builtin id) (v :: us)) (EP X pins σ Q) X.xe s

/-! ### lists of values -/
theorem Vals.one : ∀ {x : V} {us : List Value}, Vals [x] us → ∃ u, us = [u] ∧ RelV x u
  | _, _, .cons r .nil => ⟨_, rfl, r⟩
theorem Vals.two : ∀ {x y : V} {us : List Value}, Vals [x, y] us → ∃ u v, us = [u, v] ∧ RelV x u ∧ RelV y v
  | _, _, _, .cons r (.cons q .nil) => ⟨_, _, rfl, r, q⟩
theorem Vals.zero : ∀ {us : List Value}, Vals [] us → us = []
  | _, .nil => rfl
theorem Vals.dropLast {xs : List V} {us : List Value} (h : Vals xs us) : Vals xs.dropLast us.dropLast := by
  induction h with
  | nil => exact .nil
  | cons r t ih =>
    cases t with
    | nil => exact .nil
    | cons q t' => exact .cons r ih
theorem Vals.eraseIdx : ∀ {xs : List V} {us : List Value} (i : Nat), Vals xs us → Vals (xs.eraseIdx i) (us.eraseIdx i)
  | _, _, _, .nil => .nil
  | _, _, 0, .cons _ t => t
  | _, _, i + 1, .cons r t => .cons r (Vals.eraseIdx i t)
theorem Vals.reverse {xs : List V} {us : List Value} (h : Vals xs us) : Vals xs.reverse us.reverse := by
  induction h with
  | nil => exact .nil
  | cons r t ih => rw [List.reverse_cons, List.reverse_cons]; exact Vals.append ih (.cons r .nil)
theorem Vals.rep {xs : List V} {us : List Value} (h : Vals xs us) : ∀ k : Nat, Vals (List.replicate k xs).flatten (List.replicate k us).flatten
  | 0 => .nil
  | k + 1 => by
    rw [List.replicate_succ, List.replicate_succ, List.flatten_cons, List.flatten_cons]
    exact Vals.append h (Vals.rep h k)
theorem erase_last {α : Type} (l : List α) : l.eraseIdx (l.length - 1) = l.dropLast := by
  induction l with
  | nil => rfl
  | cons a r ih =>
    cases r with
    | nil => rfl
    | cons b r =>
      have e : (a :: b :: r).length - 1 = ((b :: r).length - 1) + 1 := by
        have h1 : (a :: b :: r).length = r.length + 2 := rfl
        have h2 : (b :: r).length = r.length + 1 := rfl
        omega
      rw [e, List.eraseIdx_cons_succ, ih]
      all_goals rfl
theorem len_erase {α : Type} : ∀ (l : List α) (i : Nat), (l.eraseIdx i).length ≤ l.length
  | [], _ => Nat.le_refl _
  | _ :: _, 0 => Nat.le_succ _
  | _ :: r, i + 1 => Nat.succ_le_succ (len_erase r i)
theorem foldl_rep (its : List Value) : ∀ (k : Nat) (acc : List Value),
    List.foldl (fun x1 x2 => x1 ++ x2) acc.toArray (List.replicate k its.toArray) = (acc ++ (List.replicate k its).flatten).toArray
  | 0, acc => by simp
  | k + 1, acc => by
    have e : acc.toArray ++ its.toArray = (acc ++ its).toArray := by simp
    have e2 : (acc ++ its) ++ (List.replicate k its).flatten = acc ++ (List.replicate (k + 1) its).flatten := by
      rw [List.replicate_succ, List.flatten_cons, List.append_assoc]
    rw [← e2, ← foldl_rep its k (acc ++ its), ← e, List.replicate_succ, List.foldl_cons]

section
variable {X : Cx} {pins : List (Addr × Obj)} {σ : St} {H : Hp} {s : Shared} {l b : Addr} {xs ys zs : List V}

/-! ### the two steps: a tracked list is rewritten, a new list is laid -/
theorem Inv.lset {its its' : List Value} {n : Nat} {f : Array Value → Array Value} {t' : Nat} (I : Inv X pins σ H s) (hH : H l = some (.lst xs))
    (e : s.heap.get? l = some { cls := .type "list", data := .seq its.toArray n }) (hf : f its.toArray = its'.toArray) (hv : Vals ys its') (hz : ys.length ≤ sizeLine) :
    Inv X pins σ (upd H l (.lst ys)) { s with heap := s.heap.update l (Obj.mapSeq f), toks := t' } := by
  have q := PySem.IsL.update e f
  rw [hf] at q
  refine I.write (x := l) (e := l) (by rw [hH]; exact trivial) (.inl rfl) (fun b' u hb hu => (Heap.get?_update_other s.heap (Obj.mapSeq f) (Ne.symm hb)).trans hu) ⟨_, q⟩ ?_
  exact ⟨hz, its', _, hv, q⟩
theorem Inv.lnew {its : List Value} {t' : Nat} (I : Inv X pins σ H s) (hv : Vals ys its) (hz : ys.length ≤ sizeLine) :
    Inv X pins σ (upd H s.heap.objs.size (.lst ys)) { s with heap := s.heap.push { cls := .type "list", data := .seq its.toArray }, toks := t' } :=
  I.laid (fun _ _ q => Heap.get?_push_of_some _ q) (Nat.le_refl _) ⟨hz, its, 0, hv, Heap.get?_push_size _ rfl⟩
theorem Inv.fresh (I : Inv X pins σ H s) : H s.heap.objs.size = none := I.hok.fresh (Nat.le_refl _)
theorem Inv.lstM (I : Inv X pins σ H s) (hH : H l = some (.lst xs)) : xs.length ≤ sizeLine ∧ ∃ (its : List Value) (n : Nat), Vals xs its ∧ xs.length = its.length ∧ s.heap.get? l = some { cls := .type "list", data := .seq its.toArray n } := by
  obtain ⟨z, its, n, r, e⟩ := I.hok l _ hH
  exact ⟨z, its, n, r, r.length, e⟩

theorem notLongL {n : Nat} (h : n ≤ sizeLine) : Builtin.List.listTooLong n = false := by
  unfold Builtin.List.listTooLong
  exact decide_eq_false (by omega)
end

section
variable {X : Cx}

/-! ### methods -/
def rAppend : V → List V → Hp → VK → Prop := fun x vs H Q => ∃ l xs y, x = .ref l ∧ vs = [y] ∧ H l = some (.lst xs) ∧ xs.length < sizeLine ∧ Q .non (upd H l (.lst (xs ++ [y])))
theorem mt_append : MtM X "list.append" rAppend := by
  intro pins s σ H x vs v us Q I rx rv h
  obtain ⟨l, xs, y, rfl, rfl, hH, hz, q⟩ := h
  cases rx
  obtain ⟨u, rfl, ru⟩ := rv.one
  obtain ⟨z, its, n, r, hl, e⟩ := I.lstM hH
  refine call_meets F.slot_list_append ⟨_, e, rfl⟩ F.entry_list_append (F.args_list_append_2 _ _) (PySem.list_append l its.toArray n u (by rw [List.size_toArray]; omega)) ⟨e, ?_⟩
  refine ⟨.non, _, I.lset (its' := its ++ [u]) hH e (by simp) (r.append (.cons ru .nil)) ?_, rfl, q⟩
  rw [List.length_append, List.length_singleton]
  omega

def rExtend : V → List V → Hp → VK → Prop := fun x vs H Q => ∃ l b xs zs, x = .ref l ∧ vs = [.ref b] ∧ H l = some (.lst xs) ∧ H b = some (.lst zs) ∧ xs.length + zs.length ≤ sizeLine ∧ Q .non (upd H l (.lst (xs ++ zs)))
theorem mt_extend : MtM X "list.extend" rExtend := by
  intro pins s σ H x vs v us Q I rx rv h
  obtain ⟨l, b, xs, zs, rfl, rfl, hH, hB, hz, q⟩ := h
  cases rx
  obtain ⟨u, rfl, ru⟩ := rv.one
  cases ru
  obtain ⟨z, its, n, r, hl, e⟩ := I.lstM hH
  obtain ⟨z2, its2, n2, r2, hl2, e2⟩ := I.lstM hB
  have hsz : its.toArray.size + its2.toArray.size ≤ sizeLine := by rw [List.size_toArray, List.size_toArray]; omega
  have hlong : ¬ (!its.toArray.isEmpty && Builtin.List.listTooLong (its.toArray.size + its2.toArray.size)) = true := by
    rw [notLongL hsz, Bool.and_false]
    exact Bool.false_ne_true
  refine call_meets F.slot_list_extend ⟨_, e, rfl⟩ F.entry_list_extend (F.args_list_extend_2 _ _)
    (AutoSeq1.list_extend_list_list_0 l its.toArray n b its2.toArray n2 hlong (by rw [List.size_toArray]; omega) (by omega)) ⟨e, e2, ?_⟩
  refine ⟨.non, _, I.lset (its' := its ++ its2) hH e (by simp) (r.append r2) ?_, rfl, q⟩
  rw [List.length_append]
  omega

def rPop : V → List V → Hp → VK → Prop := fun x vs H Q => ∃ l xs y, x = .ref l ∧ vs = [] ∧ H l = some (.lst xs) ∧ xs[xs.length - 1]? = some y ∧ Q y (upd H l (.lst xs.dropLast))
theorem mt_pop : MtM X "list.pop" rPop := by
  intro pins s σ H x vs v us Q I rx rv h
  obtain ⟨l, xs, y, rfl, rfl, hH, hy, q⟩ := h
  cases rx
  have hus := rv.zero
  subst hus
  obtain ⟨z, its, n, r, hl, e⟩ := I.lstM hH
  obtain ⟨u, hu, ru⟩ := r.get hy
  have hy' : its.toArray[its.toArray.size - 1]? = some u := by
    show its.toArray[its.length - 1]? = some u
    rw [← Array.getElem?_toList, ← hl]
    exact hu
  refine call_meets F.slot_list_pop ⟨_, e, rfl⟩ F.entry_list_pop (F.args_list_pop_1 _) (MeetsSeq.list_pop_last l its.toArray n u hy' (by rw [List.size_toArray]; omega)) ⟨e, ?_⟩
  refine ⟨y, _, I.lset (its' := its.dropLast) hH e ?_ r.dropLast ?_, ru, q⟩
  · show its.toArray.eraseIdxIfInBounds (its.toArray.size - 1) = its.dropLast.toArray
    rw [List.size_toArray, List.eraseIdxIfInBounds_toArray, erase_last]
  · rw [List.length_dropLast]
    omega

def rPopAt : V → List V → Hp → VK → Prop := fun x vs H Q => ∃ l xs i k y, x = .ref l ∧ vs = [.int i] ∧ H l = some (.lst xs) ∧ -(2 ^ 63) ≤ i ∧ i < 2 ^ 63 ∧ seqIndex? i xs.length = some k ∧ xs[k]? = some y ∧ Q y (upd H l (.lst (xs.eraseIdx k)))
theorem mt_popAt : MtM X "list.pop" rPopAt := by
  intro pins s σ H x vs v us Q I rx rv h
  obtain ⟨l, xs, i, k, y, rfl, rfl, hH, h1, h2, hk, hy, q⟩ := h
  cases rx
  obtain ⟨u, rfl, ru⟩ := rv.one
  obtain ⟨t, rfl⟩ := ru
  obtain ⟨z, its, n, r, hl, e⟩ := I.lstM hH
  obtain ⟨w, hw, rw'⟩ := r.get hy
  refine call_meets F.slot_list_pop ⟨_, e, rfl⟩ F.entry_list_pop (F.args_list_pop_2 _ _)
    (MeetsSeq.list_pop_at l its.toArray n i t k w (fitsIndex_both h1 h2) (by rw [List.size_toArray, ← hl]; exact hk) (by rw [← Array.getElem?_toList]; exact hw) (by rw [List.size_toArray]; omega)) ⟨e, ?_⟩
  refine ⟨y, _, I.lset (its' := its.eraseIdx k) hH e ?_ (r.eraseIdx k) ?_, rw', q⟩
  · show its.toArray.eraseIdxIfInBounds k = (its.eraseIdx k).toArray
    rw [List.eraseIdxIfInBounds_toArray]
  · have := len_erase xs k
    omega

def rReverse : V → List V → Hp → VK → Prop := fun x vs H Q => ∃ l xs, x = .ref l ∧ vs = [] ∧ H l = some (.lst xs) ∧ Q .non (upd H l (.lst xs.reverse))
theorem mt_reverse : MtM X "list.reverse" rReverse := by
  intro pins s σ H x vs v us Q I rx rv h
  obtain ⟨l, xs, rfl, rfl, hH, q⟩ := h
  cases rx
  have hus := rv.zero
  subst hus
  obtain ⟨z, its, n, r, hl, e⟩ := I.lstM hH
  refine call_meets F.slot_list_reverse ⟨_, e, rfl⟩ F.entry_list_reverse (F.args_list_reverse_1 _) (AutoSeq1.list_reverse_list_0 l its.toArray n (by rw [List.size_toArray]; omega)) ⟨e, ?_⟩
  refine ⟨.non, _, I.lset (its' := its.reverse) hH e (by simp) r.reverse ?_, rfl, q⟩
  rw [List.length_reverse]
  omega

def rClear : V → List V → Hp → VK → Prop := fun x vs H Q => ∃ l xs, x = .ref l ∧ vs = [] ∧ H l = some (.lst xs) ∧ Q .non (upd H l (.lst []))
theorem mt_clear : MtM X "list.clear" rClear := by
  intro pins s σ H x vs v us Q I rx rv h
  obtain ⟨l, xs, rfl, rfl, hH, q⟩ := h
  cases rx
  have hus := rv.zero
  subst hus
  obtain ⟨z, its, n, r, hl, e⟩ := I.lstM hH
  refine call_meets F.slot_list_clear ⟨_, e, rfl⟩ F.entry_list_clear (F.args_list_clear_1 _) (AutoSeq1.list_clear_list_0 l its.toArray n (by rw [List.size_toArray]; omega)) ⟨e, ?_⟩
  exact ⟨.non, _, I.lset (its' := []) (ys := []) hH e rfl .nil (Nat.zero_le _), rfl, q⟩

/-! ### list + list, list += list, list * int -/
def rCat : R2 := fun x y H Q => ∃ l b xs zs, x = .ref l ∧ y = .ref b ∧ H l = some (.lst xs) ∧ H b = some (.lst zs) ∧ xs.length + zs.length ≤ sizeLine ∧ ∀ p, H p = none → Q (.ref p) (upd H p (.lst (xs ++ zs)))
theorem op_cat : OpR X (binaryOp .Add) rCat := by
  intro pins s σ H x y v u Q I rx ry h
  obtain ⟨l, b, xs, zs, rfl, rfl, hH, hB, hz, q⟩ := h
  cases rx
  cases ry
  obtain ⟨z, its, n, r, hl, e⟩ := I.lstM hH
  obtain ⟨z2, its2, n2, r2, hl2, e2⟩ := I.lstM hB
  refine PySem.P.add_list e e2 ?_ (by rw [List.size_toArray, List.size_toArray]; omega)
  have ea : its.toArray ++ its2.toArray = (its ++ its2).toArray := by simp
  rw [ea]
  exact ⟨.ref _, _, I.lnew (t' := s.toks) (r.append r2) (by rw [List.length_append]; omega), rfl, q _ I.fresh⟩
/-- a list times an int (a negative one is nothing) -/
def rRep : R2 := fun x y H Q => ∃ l k xs, x = .ref l ∧ y = .int k ∧ H l = some (.lst xs) ∧ -(2 ^ 63) ≤ k ∧ k < 2 ^ 63 ∧ xs.length * k.toNat ≤ sizeLine ∧
  ∀ p, H p = none → Q (.ref p) (upd H p (.lst (List.replicate k.toNat xs).flatten))
theorem len_rep {α : Type} (xs : List α) (k : Nat) : (List.replicate k xs).flatten.length = k * xs.length := by
  induction k with
  | zero => simp
  | succ k ih => rw [List.replicate_succ, List.flatten_cons, List.length_append, ih, Nat.succ_mul, Nat.add_comm]
theorem op_rep : OpR X (binaryOp .Mult) rRep := by
  intro pins s σ H x y v u Q I rx ry h
  obtain ⟨l, k, xs, rfl, rfl, hH, h1, h2, hz, q⟩ := h
  cases rx
  obtain ⟨t, rfl⟩ := ry
  obtain ⟨z, its, n, r, hl, e⟩ := I.lstM hH
  have hlen : its.toArray.size * k.toNat ≤ sizeLine := by rw [List.size_toArray, ← hl]; exact hz
  have hcap : ¬ its.toArray.size * k.toNat > (2 ^ 63 - 1) / 8 := by
    have : (sizeLine : Nat) ≤ (2 ^ 63 - 1) / 8 := by decide
    omega
  have hfit : ¬ (!Builtin.List.listFitsIndex k) = true := by
    rw [fitsIndex_both h1 h2]
    exact Bool.false_ne_true
  have hlong : ¬ Builtin.List.listTooLong (its.toArray.size * k.toNat) = true := by
    rw [notLongL hlen]
    exact Bool.false_ne_true
  have hnew : List.foldl (fun x1 x2 => x1 ++ x2) #[] (List.replicate (if its.toArray.isEmpty = true then 0 else k.toNat) its.toArray) = (List.replicate k.toNat its).flatten.toArray := by
    have f0 : ∀ m : Nat, List.foldl (fun x1 x2 => x1 ++ x2) #[] (List.replicate m its.toArray) = (List.replicate m its).flatten.toArray := fun m => by
      have := foldl_rep its m []
      rw [List.nil_append] at this
      exact this
    rw [f0]
    cases its with
    | nil => simp
    | cons a r' => rw [if_neg (by simp)]
  refine wpAny_binaryOp_repeat_ref (T := "list") (U := "int") (by decide) ⟨_, e, rfl⟩ (fun s' => typeIs_int s' k t) noFill_list_mul F.fills_int_mul F.slot_int_rmul repeat_list F.slot_int_index.lookup
    (call_meets F.slot_int_rmul (typeIs_int s k t) F.entry_int_rmul (F.args_int_rmul_2 _ _) (int___rmul___int_list k t l its.toArray n)
      ⟨e, rfl, ⟨_, e, rfl⟩, call_meets F.slot_list_mul ⟨_, e, rfl⟩ F.entry_list_mul (F.args_list_mul_2 _ _) (AutoListH.list___mul___list_int_3 l its.toArray n k t hfit hcap hlong) ⟨e, ?_⟩⟩)
  rw [hnew]
  exact ⟨.ref _, _, I.lnew (t' := s.toks) (r.rep k.toNat) (by rw [len_rep, Nat.mul_comm]; exact hz), rfl, q _ I.fresh⟩

/-! ### del xs[i] -/
theorem del_list {pins : List (Addr × Obj)} {s : Shared} {σ : St} {H : Hp} {l : Addr} {xs : List V} {i : Int} {t : Tok} {k : Nat} {Q : Unit → Shared → Prop} (I : Inv X pins σ H s) (hH : H l = some (.lst xs))
    (h1 : -(2 ^ 63) ≤ i) (h2 : i < 2 ^ 63) (hk : seqIndex? i xs.length = some k) (h : ∀ s', Inv X pins σ (upd H l (.lst (xs.eraseIdx k))) s' → Q () s') :
    wpAny (model X.prog X.w) X.A (delItem (.ref l) (.int i t)) Q X.xe s := by
  obtain ⟨z, its, n, r, hl, e⟩ := I.lstM hH
  refine PySem.P.delItem_list (k := k) e (fitsIndex_both h1 h2) (by rw [List.size_toArray, ← hl]; exact hk) (h _ ?_) (by rw [List.size_toArray]; omega)
  refine I.lset (its' := its.eraseIdx k) (t' := s.toks) hH e ?_ (r.eraseIdx k) ?_
  · show its.toArray.eraseIdxIfInBounds k = (its.eraseIdx k).toArray
    rw [List.eraseIdxIfInBounds_toArray]
  · have := len_erase xs k
    omega
end

/-! ### xs[a:b] = ys -/
section
variable {prog : Program} {w : World} {A : Around} {E : Value → Shared → Prop} {s : Shared}
theorem splice_eq (its its2 : List Value) (a c : Nat) : its.toArray.extract 0 a ++ its2.toArray ++ its.toArray.extract c its.toArray.size = (its.take a ++ its2 ++ its.drop c).toArray := by
  apply Array.toList_inj.mp
  first
    | (simp
       exact List.take_of_length_le (by simp))
    | simp [List.take_of_length_le]
    | simp
theorem bounds_run {a c n : Nat} (hac : a ≤ c) (hc : c ≤ n) : sliceBounds (some (a : Int)) (some (c : Int)) none n = ((a : Int), (c : Int), 1) := by
  simp only [sliceBounds, Option.getD_none]
  have h1 : ¬ ((a : Int) < 0) := by omega
  have h2 : ¬ ((c : Int) < 0) := by omega
  simp only [h1, h2, if_false, show (1 : Int) > 0 by decide, if_true]
  congr 1
  · omega
  · congr 1; omega
set_option maxRecDepth 100000 in
/-- list.__setitem__ with a slice of step one and another list -/
theorem setItem_slice {l b sl : Addr} {items new : Array Value} {n n2 : Nat} {vl vu : Value} {a c : Nat} {Q : Unit → Shared → Prop}
    (e : s.heap.get? l = some { cls := .type "list", data := .seq items n }) (e2 : s.heap.get? b = some { cls := .type "list", data := .seq new n2 }) (hne : l ≠ b)
    (hs : s.heap.IsSliceOf sl vl vu .none) (pl : IsPart vl (some (a : Int))) (pu : IsPart vu (some (c : Int))) (hac : a ≤ c) (hc : c ≤ items.size)
    (hsz : items.size + new.size ≤ sizeLine) (h : Q () { s with heap := s.heap.update l (Obj.mapSeq fun xs => xs.extract 0 a ++ new ++ xs.extract c xs.size) }) :
    wpAny (model prog w) A (setItem (.ref l) (.ref sl) (.ref b)) Q E s := by
  have hl : s.heap.IsList l items := PySem.IsL.isList e
  have hb : s.heap.IsList b new := PySem.IsL.isList e2
  obtain ⟨os, hos, hcs, hds⟩ := id hs
  have hTs : s.TypeIs (.ref sl) "slice" := ⟨os, hos, hcs⟩
  have hstep : ¬ ((rawPart none == rawInt 0) = true) := Bool.false_ne_true
  have hsame : Builtin.List.listSameRef (.ref l) (.ref b) = false := by
    unfold Builtin.List.listSameRef
    exact beq_eq_false_iff_ne.mpr hne
  have hmax : (max (a : Int) (c : Int)).toNat = c := by omega
  have hz' : ((fun xs : Array Value => xs.extract 0 a ++ new ++ xs.extract c xs.size) items).size ≤ sizeLine + 1 := by
    simp only [Array.size_append, Array.size_extract]
    omega
  unfold setItem
  try with_reducible refine wpAny_holding ?_
  first | refine wpAny_bind (wpAny_pure ?_) | skip
  refine wpAny_bind (wpAny_sequenceKey hl.typeIs (by decide) ?_)
  refine wpAny_bind (wpAny_callSpecial?_slot (name := Str.ofString "__setitem__") hl.typeIs slot_list_setitem
    (wpAny_call_entry slot_list_setitem hl.typeIs entry_list_setitem ?_ (args_list_setitem _ _ _)))
  show wpAny _ _ (Builtin.List.listSubscript? (.ref sl) >>= _) _ _ s
  refine wpAny_bind ?_
  unfold Builtin.List.listSubscript?
  refine wpAny_bind (wpAny_specialOf hTs slice_no_index ?_)
  simp only [Option.isNone_none, if_true]
  refine wpAny_pure ?_
  show wpAny _ _ (typeOf (.ref sl) >>= _) _ _ s
  refine wpAny_bind (wpAny_typeOf hTs ?_)
  first
    | rw [if_neg (by decide)]
    | refine PySem.W.KFB.if_not (by decide) ?_
  rw [listSliceParts_eq]
  refine wpAny_bind (wpAny_bind (wpAny_field hos hds (x := .none) rfl (wpAny_bind (wpAny_listPart .none ?_))))
  rw [if_neg hstep]
  refine wpAny_bind (wpAny_field hos hds (x := vl) rfl (wpAny_bind (wpAny_listPart pl ?_)))
  refine wpAny_bind (wpAny_field hos hds (x := vu) rfl (wpAny_bind (wpAny_listPart pu (wpAny_pure ?_))))
  first
    | simp only [hsame, Bool.false_eq_true, if_false]
    | refine PySem.W.KFB.if_not hsame ?_
    | (dsimp only
       rw [if_neg (by rw [hsame]; exact Bool.false_ne_true)])
  refine wpAny_bind (m := Builtin.List.listAllItems (.ref b) "must assign iterable to extended slice") ?_
  unfold Builtin.List.listAllItems
  refine wpAny_bind (wpAny_typeOf hb.typeIs ?_)
  first
    | refine PySem.W.KFB.if_so (by decide) ?_
    | rw [if_pos (by decide)]
    | simp only [beq_self_eq_true, Bool.true_or, if_true]
  unfold Builtin.List.listItems
  refine wpAny_bind (wpAny_seqItems e2 rfl (wpAny_pure ?_))
  refine wpAny_bind (wpAny_bind (wpAny_seqItems e rfl (wpAny_pure ?_)))
  refine wpAny_bind (wpAny_of_eq ((sliceIndices_raw (some (a : Int)) (some (c : Int)) none items.size (by simp)).trans (congrArg (pure : Int × Int × Int → Sem (Int × Int × Int)) (bounds_run hac hc))) ?_)
  show wpAny _ _ (if ((1 : Int) == 1) = true then _ else _) _ _ s
  rw [if_pos (by decide)]
  refine wpAny_bind (wpAny_rule ?_)
  first
    | simp only [notLongL hsz, Bool.false_eq_true, if_false]
    | refine PySem.W.KFB.if_not (notLongL hsz) ?_
  first | refine wpAny_bind (wpAny_pure ?_) | skip
  show wpAny _ _ (updateSeq l (fun xs => xs.extract 0 ((a : Int)).toNat ++ new ++ xs.extract (max (a : Int) (c : Int)).toNat xs.size) >>= _) _ _ s
  rw [hmax, Int.toNat_natCast]
  refine wpAny_bind (wpAny_updateSeq (hz := Nat.le_trans (Nat.le_add_right _ _) hsz) (_hz' := hz') e rfl ?_)
  refine wpAny_bind (wpAny_letGo ?_)
  first
    | exact wpAny_bind (wpAny_pure (wpAny_pure ⟨.none, rfl, wpAny_pure h⟩))
    | exact wpAny_pure ⟨.none, rfl, wpAny_pure h⟩
end

section
variable {X : Cx}
/-- xs[a:c] = ys of another list, at the value level: sl is the slice object that was just made -/
theorem set_slice {pins : List (Addr × Obj)} {s : Shared} {σ : St} {H : Hp} {l b sl : Addr} {xs ys : List V} {a c : Int} {vl vu : Value} {Q : Unit → Shared → Prop} (I : Inv X pins σ H s)
    (hH : H l = some (.lst xs)) (hB : H b = some (.lst ys)) (hne : l ≠ b) (hs : s.heap.IsSliceOf sl vl vu .none) (ra : RelV (.int a) vl) (rc : RelV (.int c) vu) (h0 : 0 ≤ a) (hac : a ≤ c) (hc : c ≤ xs.length)
    (hz : xs.length + ys.length ≤ sizeLine) (h : ∀ s', Inv X pins σ (upd H l (.lst (xs.take a.toNat ++ ys ++ xs.drop c.toNat))) s' → Q () s') :
    wpAny (model X.prog X.w) X.A (setItem (.ref l) (.ref sl) (.ref b)) Q X.xe s := by
  obtain ⟨ta, rfl⟩ := ra
  obtain ⟨tc, rfl⟩ := rc
  obtain ⟨z, its, n, r, hl, e⟩ := I.lstM hH
  obtain ⟨z2, its2, n2, r2, hl2, e2⟩ := I.lstM hB
  obtain ⟨a', rfl⟩ := Int.eq_ofNat_of_zero_le h0
  obtain ⟨c', rfl⟩ := Int.eq_ofNat_of_zero_le (Int.le_trans h0 hac)
  simp only [Int.toNat_natCast] at h
  refine setItem_slice (a := a') (c := c') e e2 hne hs (.int _ _) (.int _ _) (by omega) (by rw [List.size_toArray]; omega) (by rw [List.size_toArray, List.size_toArray]; omega) (h _ ?_)
  refine I.lset (its' := its.take a' ++ its2 ++ its.drop c') (t' := s.toks) hH e ?_ (Vals.append (Vals.append (r.take _) r2) (r.drop _)) ?_
  · exact splice_eq its its2 a' c'
  · rw [List.length_append, List.length_append, List.length_take, List.length_drop]
    omega
end
end L2

namespace Att
open PySem PySem.W PySem.Calls PyProof.Rows

/-! ### the script -/
theorem ints_of_wellAll {P : Params} {h : Heap} : ∀ (ns : List Int) (vs : List Value), WellAll P h vs (ns.map WData.int) → IntsAre vs ns := by
  intro ns
  induction ns with
  | nil =>
    intro vs w
    rw [List.map_nil] at w
    cases w
    exact .nil
  | cons n ns ih =>
    intro vs w
    rw [List.map_cons] at w
    cases w with
    | cons a b =>
      cases a
      exact .cons _ _ (ih _ b)

theorem script_of {l : OpenLaw} {n : Nat} (hn : l.most = some n) {P : Params} {h : Heap} {args : List WData} {vals : List Value}
    (hpre : l.row.toRowW.claim.pre args = true) (hwl : WellAll P h vals args) :
    ∃ a vs ns, vals = [Value.ref a] ∧ args = [WData.list (ns.map WData.int)] ∧ h.get? a = some { cls := .type "list", data := .seq vs.toArray } ∧ IntsAre vs ns ∧ ns.length ≤ n := by
  have hsh : WShape.hasAll [] args [.list .int] = true := (pre_splitW hpre).1
  have hc : l.pre.holds [] { args := args } = true := (pre_splitW hpre).2
  obtain ⟨d, r, rfl, h1, h2⟩ := hasAllW_cons hsh
  obtain rfl := hasAllW_nil h2
  obtain ⟨xs, rfl, h3⟩ := hasW_list h1
  obtain ⟨ns, rfl⟩ := items_int h3
  have hlen : ns.length ≤ n := by
    unfold OpenLaw.pre at hc
    have h4 : (WTm.not (.lt (.lit (.int (n : Int))) (.len (.arg 0)))).holds [] { args := [.list (ns.map .int)] } = true := by
      have h4 := (holds_andW hc).1
      rw [hn] at h4
      exact h4
    have h5 := condW_of h4 (w_not (w_lt w_lit (w_len_list (w_arg rfl))))
    rw [List.length_map] at h5
    refine Nat.le_of_not_lt fun q => ?_
    have q' : (n : Int) < ((ns.length : Nat) : Int) := by omega
    first
      | (rw [decide_eq_true q'] at h5; exact absurd h5 (by decide))
      | (simp at h5; omega)
  cases hwl with
  | cons w1 w2 =>
    cases w2
    cases w1 with
    | list ho hall => exact ⟨_, _, ns, rfl, rfl, ho, ints_of_wellAll ns _ hall, hlen⟩

theorem post_true (l : OpenLaw) (args : List WData) : l.row.toRowW.claim.post args (.bool true) args = true :=
  postW_of (r := l.row.toRowW) (X := (true == true))
    (show WShape.has [] (.bool true) .bool = true by first | rfl | decide | simp [WShape.has, WShape.arms, WShape.armsAll])
    (show (WTm.eq .res (.lit (.bool true))).value [] { args := args, res := some (.bool true), after := args } = some (.bool (true == true)) from w_eq_bool (w_res rfl) w_lit) rfl

/-! ### the attachment: holds_open's last premise (the goal 'hc' behind k_head) from a wpAny of the law's body -/
theorem attach {l : OpenLaw} {n : Nat} {q : Program} {loose : List Str} {XP : (Str → Option Value) → Heap → Prop} {YP : World → Heap → Prop} {d : DefRec} {x : Str}
    (hn : l.most = some n) (hdf : d.params.defaults = [])
    (hbind : ∀ pm cd doc v : Value, bindArgs (docDef d.name d.params d.body d.scope pm cd doc) ⟨[v], []⟩ = pure [(x, v)])
    (hx : d.scope.names.lookup x = some .local ∨ d.scope.names.lookup x = some .cell)
    (hk : d.scope.kind = .function) (hco : d.scope.isCoroutine = false) (hgen : d.scope.isGenerator = false)
    (body : ∀ (w : World) (s₀ s₁ s : Shared) (mg mb : Str → Option Value) (fa : Addr) (o : Obj) (pm cd doc : Value) (a : Addr) (vs : List Value) (ns : List Int),
      Ground q loose [] XP w s₀ mg mb s₁.heap → YP w s₁.heap →
      s₁.heap.get? fa = some o → o.data = .func (docDef d.name d.params d.body d.scope pm cd doc) → s₁.heap.CodeRec cd d.name → mg d.name = some (.ref fa) →
      s₁.heap.get? a = some { cls := .type "list", data := .seq vs.toArray } → IntsAre vs ns → ns.length ≤ n →
      s.gens = #[] → s.os = s₁.os →
      Fr s₁.heap s₁.heap.objs.size s.heap (bindL (envOfC d.name d.scope s₁.heap.objs.size fa cd).kindOf [(x, .ref a)] fun _ => none) →
      Cl s₁.heap.objs.size (cellsFrom (s₁.heap.objs.size + 1) d.scope.names []) s.heap (bindC (envOfC d.name d.scope s₁.heap.objs.size fa cd).kindOf [(x, .ref a)] fun _ => none) →
      wpAny (model l.prog w) (callerA.deeper (envOfC d.name d.scope s₁.heap.objs.size fa cd)) (execs d.body (envOfC d.name d.scope s₁.heap.objs.size fa cd))
        (fun f s' => f = .ret (.bool true) ∧ OldK s₁.heap s'.heap ∧ s'.os = s₁.os ∧ AllBare s'.gens) (fun _ _ => False) s) :
    WalkO q loose XP YP l.row.toRowW d [] (fun f vs => PySem.call f vs) := by
  intro w s₀ s₁ mg mb G Y fa o pm cd doc dV kV ho hd hcd hD hmg hg args vals as hpre hlay hrd hwl hlo
  obtain rfl : dV = .none := Dflts.none hD hdf
  obtain rfl : kV = .none := Dflts.noKw hD
  obtain ⟨a, vs, ns, rfl, rfl, hobj, hints, hlen⟩ := script_of hn hpre hwl
  refine enter_call ?_
  refine call_cells_ret (o := o) (by rw [depth_caller]; decide) ho (fd_plain hd) G.T.nolimit hcd (hbind pm cd doc (.ref a)) (fun y hy => ?_) (fun h₁ tk F X => ?_) hco hgen hk
  · obtain rfl : y = (x, Value.ref a) := List.mem_singleton.mp hy
    rcases hx with e | e
    · exact .inl e
    · exact .inr ⟨e, cellsFrom_some _ _ _ (.inl e)⟩
  · refine wpAny_mono (body w s₀ s₁ { s₁ with heap := h₁, toks := tk } mg mb fa o pm cd doc a vs ns G Y ho (fd_plain hd) hcd hmg hobj hints hlen hg rfl F X) (fun f s' hq => ?_) (fun _ _ hq => hq)
    obtain ⟨rfl, h2, h3, h4⟩ := hq
    exact ⟨.inl ⟨.bool true, .bool true, [], rfl, fun _ => rfl, .bool true, post_true l _, fun _ => ⟨List.Pairwise.nil, fun _ hm => (nomatch hm)⟩⟩, h2, h3, h4⟩

/-- the same from a codeAny of the CALL (for a layer whose function contracts speak of calls) -/
theorem attach_call {l : OpenLaw} {n : Nat} {q : Program} {loose : List Str} {XP : (Str → Option Value) → Heap → Prop} {YP : World → Heap → Prop} {d : DefRec}
    (hn : l.most = some n) (hdf : d.params.defaults = [])
    (call : ∀ (w : World) (s₀ s₁ : Shared) (mg mb : Str → Option Value) (fa : Addr) (o : Obj) (pm cd doc : Value) (a : Addr) (vs : List Value) (ns : List Int),
      Ground q loose [] XP w s₀ mg mb s₁.heap → YP w s₁.heap →
      s₁.heap.get? fa = some o → o.data = .func (docDef d.name d.params d.body d.scope pm cd doc) → s₁.heap.CodeRec cd d.name → mg d.name = some (.ref fa) →
      s₁.heap.get? a = some { cls := .type "list", data := .seq vs.toArray } → IntsAre vs ns → ns.length ≤ n → s₁.gens = #[] →
      codeAny (model l.prog w) callerA (.call (.ref fa) ⟨[.ref a], []⟩) (fun r s' => r = .ok (.ret (.bool true)) ∧ OldK s₁.heap s'.heap ∧ s'.os = s₁.os ∧ AllBare s'.gens) s₁) :
    WalkO q loose XP YP l.row.toRowW d [] (fun f vs => PySem.call f vs) := by
  intro w s₀ s₁ mg mb G Y fa o pm cd doc dV kV ho hd hcd hD hmg hg args vals as hpre hlay hrd hwl hlo
  obtain rfl : dV = .none := Dflts.none hD hdf
  obtain rfl : kV = .none := Dflts.noKw hD
  obtain ⟨a, vs, ns, rfl, rfl, hobj, hints, hlen⟩ := script_of hn hpre hwl
  refine enter_call (codeAny_mono (call w s₀ s₁ mg mb fa o pm cd doc a vs ns G Y ho (fd_plain hd) hcd hmg hobj hints hlen hg) fun r s' hq => ?_)
  obtain ⟨rfl, h2, h3, h4⟩ := hq
  exact ⟨.inl ⟨.bool true, .bool true, [], rfl, fun _ => rfl, .bool true, post_true l _, fun _ => ⟨List.Pairwise.nil, fun _ hm => (nomatch hm)⟩⟩, h2, h3, h4⟩

/-- the same where the top left finished generators (o_head chose holds_openN): nothing may have changed at all and no generator may be left -/
theorem attachN {l : OpenLaw} {n : Nat} {q : Program} {loose : List Str} {XP : (Str → Option Value) → Heap → Prop} {YP : World → Heap → Prop} {d : DefRec} {x : Str}
    (hn : l.most = some n) (hdf : d.params.defaults = [])
    (hbind : ∀ pm cd doc v : Value, bindArgs (docDef d.name d.params d.body d.scope pm cd doc) ⟨[v], []⟩ = pure [(x, v)])
    (hx : d.scope.names.lookup x = some .local ∨ d.scope.names.lookup x = some .cell)
    (hk : d.scope.kind = .function) (hco : d.scope.isCoroutine = false) (hgen : d.scope.isGenerator = false)
    (body : ∀ (w : World) (s₀ s₁ s : Shared) (mg mb : Str → Option Value) (fa : Addr) (o : Obj) (pm cd doc : Value) (a : Addr) (vs : List Value) (ns : List Int),
      Ground q loose [] XP w s₀ mg mb s₁.heap → YP w s₁.heap →
      s₁.heap.get? fa = some o → o.data = .func (docDef d.name d.params d.body d.scope pm cd doc) → s₁.heap.CodeRec cd d.name → mg d.name = some (.ref fa) →
      s₁.heap.get? a = some { cls := .type "list", data := .seq vs.toArray } → IntsAre vs ns → ns.length ≤ n →
      s.gens = #[] → s.os = s₁.os →
      Fr s₁.heap s₁.heap.objs.size s.heap (bindL (envOfC d.name d.scope s₁.heap.objs.size fa cd).kindOf [(x, .ref a)] fun _ => none) →
      Cl s₁.heap.objs.size (cellsFrom (s₁.heap.objs.size + 1) d.scope.names []) s.heap (bindC (envOfC d.name d.scope s₁.heap.objs.size fa cd).kindOf [(x, .ref a)] fun _ => none) →
      wpAny (model l.prog w) (callerA.deeper (envOfC d.name d.scope s₁.heap.objs.size fa cd)) (execs d.body (envOfC d.name d.scope s₁.heap.objs.size fa cd))
        (fun f s' => f = .ret (.bool true) ∧ (∀ b o, s₁.heap.get? b = some o → s'.heap.get? b = some o) ∧ s'.os = s₁.os ∧ s'.gens = #[]) (fun _ _ => False) s) :
    WalkN q loose XP YP l.row.toRowW d [] (fun f vs => PySem.call f vs) := by
  intro w s₀ s₁ mg mb G Y fa o pm cd doc dV kV ho hd hcd hD hmg hg args vals as hpre hlay hrd hwl hlo
  obtain rfl : dV = .none := Dflts.none hD hdf
  obtain rfl : kV = .none := Dflts.noKw hD
  obtain ⟨a, vs, ns, rfl, rfl, hobj, hints, hlen⟩ := script_of hn hpre hwl
  refine enter_callW ?_
  refine call_cells_ret (o := o) (by rw [depth_caller]; decide) ho (fd_plain hd) G.T.nolimit hcd (hbind pm cd doc (.ref a)) (fun y hy => ?_) (fun h₁ tk F X => ?_) hco hgen hk
  · obtain rfl : y = (x, Value.ref a) := List.mem_singleton.mp hy
    rcases hx with e | e
    · exact .inl e
    · exact .inr ⟨e, cellsFrom_some _ _ _ (.inl e)⟩
  · refine wpAny_mono (body w s₀ s₁ { s₁ with heap := h₁, toks := tk } mg mb fa o pm cd doc a vs ns G Y ho (fd_plain hd) hcd hmg hobj hints hlen hg rfl F X) (fun f s' hq => ?_) (fun _ _ hq => hq)
    obtain ⟨rfl, h2, h3, h4⟩ := hq
    exact ⟨.inl ⟨.bool true, .bool true, [], rfl, fun _ => rfl, .bool true, post_true l _, fun _ => ⟨List.Pairwise.nil, fun _ hm => (nomatch hm)⟩⟩, h2, h3, h4⟩

/-! ### rules over ANY heap (no ledger) from facts about the written part K: the library's own take a ledger (News) for what they write -/
section
variable {prog : Program} {w : World} {A : Around} {E : Value → Shared → Prop} {s : Shared} {K : Frag}

/-- a def of the module, or a method (qual 'C.m'), entered: the frame is the next address; cells behind it -/
theorem call_fn {R : Result → Shared → Prop} {name qual : Str} {params : Arguments} {body : List Stmt} {scope : Scope} {dV kV doc pm cdv ct oc : Value} {an od : Option Addr} {osl : Array (Option Value)} {f : Addr} {args : Args} {binds : List (Str × Value)}
    (X : K.In s.heap) (hlim : s.heap.NoLimit) (ho : K.lookup f = some ⟨oc, od, .func (fnOf name qual params body scope dV kV doc pm an cdv ct), osl⟩) (hcd : codeIn K cdv qual = true) (hroom : A.depth < recursionLimit)
    (hbind : BindsTo s (fnOf name qual params body scope dV kV doc pm an cdv ct) args binds)
    (hkind : (binds.all fun y => scope.names.lookup y.1 == some .local || scope.names.lookup y.1 == some .cell) = true)
    (h : ∀ s₁, InCallC s s.heap.objs.size (bindL (envOfC qual scope s.heap.objs.size f cdv).kindOf binds fun _ => none) (cellsFrom (s.heap.objs.size + 1) scope.names [])
        (bindC (envOfC qual scope s.heap.objs.size f cdv).kindOf binds fun _ => none) s₁ →
      wpAny (model prog w) (A.deeper (envOfC qual scope s.heap.objs.size f cdv)) (execs body (envOfC qual scope s.heap.objs.size f cdv))
        (fun fl s' => R (.ok (.ret (match fl with | .ret v => v | _ => .none))) s')
        (fun e s' => wpAny (model prog w) (A.deeper (envOfC qual scope s.heap.objs.size f cdv)) (leaving (envOfC qual scope s.heap.objs.size f cdv) e) (fun _ s'' => R (.error e) s'') (fun e' s'' => R (.error e') s'') s') s₁)
    (hco : scope.isCoroutine = false) (hgen : scope.isGenerator = false) (hk : scope.kind = .function) : codeAny (model prog w) A (.call (.ref f) args) R s := by
  refine codeAny_call_function hroom (X _ _ ho) rfl hco hgen rfl (codeRec_of X hcd) (hbind _ _ _ _ ?_)
  refine wpAny_newFunctionEnv_cells hk (kindsX hkind _) fun env he s₁ x => ?_
  subst he
  exact ⟨hlim.keeps x.toInCall.keep, codeAny_func (h s₁ x)⟩

/-- C(..): dict at size, instance at size + 1, then __init__ -/
theorem make_obj {R : Result → Shared → Prop} {C fI : Addr} {rest : List Value} {kw : List (Str × Value)}
    (X : K.In s.heap) (hm : makesIn K C = true) (hi : findIn K (.ref C) "__init__" = some (some (.ref fI))) (hf : isFn K (.ref fI) = true)
    (h : codeAny (model prog w) (A.under (.builtin "type.__call__" ⟨.ref C :: rest, kw⟩)) (.call (.ref fI) ⟨.ref (s.heap.objs.size + 1) :: rest, kw⟩) (InitBack (s.heap.objs.size + 1) R)
      { s with heap := (s.heap.push emptyDict).push (instObj C s.heap.objs.size) }) : codeAny (model prog w) A (.call (.ref C) ⟨rest, kw⟩) R s := by
  obtain ⟨hh, g, d, t, os⟩ := s
  exact make_core (makes_of X hm) (looks_findIn X hi) (fun self => bind_fn X self (beq_iff_eq.mp hf)) (.inl rfl) h

/-- x.name where the instance's dict holds the name and the class does not -/
theorem get_field {x C : Addr} {ox : Obj} {es : List DictEntry} {n : Nat} {name : Str} {expr : Bool} {v : Value} {Q : Value → Shared → Prop}
    (X : K.In s.heap) (I : PySem.W.InstAt s.heap x ox C (some (dictOf es n))) (hg : plainGet K C name = true) (hh : hasDictIn K C = true) (ha : findIn K (.ref C) name = some none)
    (hl : getL name es = some (some v)) (hv : handedIn v = true) (h : Q v { s with toks := s.toks + 1 }) : wpAny (model prog w) A (getAttr (.ref x) name expr) Q E s :=
  get_value X I (plainGet_of hg).1 (findObj_own hh ha rfl hl) hv h

/-- x.m(..): the method found in the class -/
theorem get_method {x C f : Addr} {ox : Obj} {es : List DictEntry} {n : Nat} {name : Str} {pl : Sem Bool} {Q : Value × List Value → Shared → Prop}
    (X : K.In s.heap) (I : PySem.W.InstAt s.heap x ox C (some (dictOf es n))) (hg : plainGet K C name = true) (hf : findIn K (.ref C) name = some (some (.ref f))) (ht : isFn K (.ref f) = true)
    (hl : getL name es = some none) (h : Q (.ref f, [.ref x]) s) : wpAny (model prog w) A (getMethod (.ref x) name pl) Q E s :=
  method_fn X I (plainGet_of hg).1 (plainGet_of hg).2 hf (beq_iff_eq.mp ht) (by show (lookIn name (dictOf es n)).map _ = _; rw [lookIn_dict, hl]; rfl) h

/-! the whole heap as the ledger: makes every rule that writes through a ledger a rule over any heap -/
def noObjs (h : Heap) : Heap := { h with objs := #[] }
theorem noObjs_get (h : Heap) (b : Addr) : (noObjs h).get? b = none := by
  cases e : (noObjs h).get? b with
  | none => rfl
  | some o => exact absurd (Heap.lt_size e) (Nat.not_lt_zero _)
def ledger (h : Heap) (L d : Addr) : List (Addr × Obj) := (List.range h.objs.size).filterMap fun a => if a = L ∨ a = d then none else (h.get? a).map fun o => (a, o)
theorem mem_ledger {h : Heap} {L d a : Addr} {o : Obj} : (a, o) ∈ ledger h L d ↔ a ≠ L ∧ a ≠ d ∧ h.get? a = some o := by
  unfold ledger
  rw [List.mem_filterMap]
  constructor
  · rintro ⟨b, _, e⟩
    split at e
    · cases e
    · rename_i hb
      obtain ⟨o', ho, e'⟩ := Option.map_eq_some_iff.mp e
      cases e'
      exact ⟨fun q => hb (.inl q), fun q => hb (.inr q), ho⟩
  · rintro ⟨n1, n2, ho⟩
    refine ⟨a, List.mem_range.mpr (Heap.lt_size ho), ?_⟩
    rw [if_neg (show ¬ (a = L ∨ a = d) from fun q => q.elim n1 n2), ho] <;> rfl
theorem news_ledger {h : Heap} {L d : Addr} {od : Obj} (hne : d ≠ L) (ho : h.get? d = some od) : News (noObjs h) L h ([] ++ (d, od) :: ledger h L d) := by
  rintro ⟨a, o⟩ hp
  rcases List.mem_cons.mp hp with e | hp
  · cases e
    exact ⟨ho, hne, noObjs_get _ _⟩
  · obtain ⟨n1, n2, e⟩ := mem_ledger.mp hp
    exact ⟨e, n1, noObjs_get _ _⟩
theorem fr_all {h : Heap} {L : Addr} {m : Str → Option Value} (n : h.Ns L m) : Fr (noObjs h) L h m :=
  ⟨n, fun b o e => (by rw [noObjs_get] at e; cases e), Nat.zero_le _⟩
/-- Upd of the head entry (for append_K, setItem_K ..) -/
theorem upd_ledger {h : Heap} {L d : Addr} {o o' : Obj} : Upd d o o' ((d, o) :: ledger h L d) ((d, o') :: ledger h L d) :=
  .head fun ⟨_, _⟩ hp => (mem_ledger.mp hp).2.1

/-- x.name = v over any heap: L is any namespace of the heap (the frame's, say): its map stays, its object is not told; all else but the dict stays -/
theorem set_field {x C dx L : Addr} {ox : Obj} {m : Str → Option Value} {es es' : List DictEntry} {n n' : Nat} {name : Str} {v : Value} {Q : Unit → Shared → Prop}
    (X : K.In s.heap) (I : PySem.W.InstAt s.heap x ox C (some (dictOf es n))) (hd : ox.dict = some dx) (hL : s.heap.Ns L m) (hne : dx ≠ L)
    (hs : findIn K (.ref C) "__setattr__" = some (some (.builtin "object.__setattr__"))) (hp : plainOver K C = true) (ht : takerIn K C name = some none) (hh : hasDictIn K C = true) (hl : (getL name es).isSome = true)
    (e : (putL name (PyData.keyHash w.params name) (.str name (s.toks + 1)) v es, putN name es n) = (es', n')) (hz : es'.length ≤ 1000)
    (h : ∀ h' : Heap, h'.Ns L m → h'.get? dx = some (dictOf es' n') → (∀ b o, b ≠ dx → b ≠ L → s.heap.get? b = some o → h'.get? b = some o) → Q () { s with heap := h', toks := s.toks + 2 }) :
    wpAny (model prog w) A (setAttr (.ref x) name v) Q E s := by
  obtain ⟨e1, e2⟩ := Prod.mk.inj e
  have hdx : s.heap.get? dx = some (dictOf es n) := by
    have := I.dict
    rw [hd] at this
    exact this
  refine set_plain X I hs (osa_dict (s := { s with toks := s.toks + 1 }) (h₀ := noObjs s.heap) (L := L) (m := m) (od := dictOf es n) (od' := dictOf es' n') (es := es') (n := n') (pre := []) (post := ledger s.heap L dx)
    (fr_all hL) (news_ledger hne hdx) X I hd hp ht hh hl (fun _ q => nomatch q) (fun ⟨_, _⟩ q => (mem_ledger.mp q).2.1) (by rw [putName_dict, e1, e2]) rfl hz fun h' F' N' => ?_)
  exact h h' F'.ns (N'.get (List.Mem.head _)) fun b o n1 n2 ho => N'.get (List.Mem.tail _ (mem_ledger.mpr ⟨n2, n1, ho⟩))
end
end Att

namespace L2
open PySem PySem.Spec PyProof.Rows

theorem vals_ints : ∀ {vs : List Value} {ns : List Int}, IntsAre vs ns → Vals (ns.map V.int) vs
  | _, _, .nil => .nil
  | _, _, .cons n t h => .cons ⟨t, rfl⟩ (vals_ints h)

/-- nothing is tracked but the script, known to the object (or it is an object of the module) -/
def Only (H : Hp) : Prop := ∀ b, H b = none ∨ ∃ o xs, H b = some (.frz o (.lst xs))

/-- THE HEAD: the law's promise, at the heap behind the top. F, the promise of the law's def, may use that base is part of the heap (so K.In base, base.Ns mainGlobals mg stand in Mod) -/
theorem law_call {P : Program} {w : World} {K : PySem.W.Frag} {mg mb : Str → Option Value} {CX : CXT} {k : Nat} {fa a : Addr} {fd : FuncData} {x : Str} {sp : Sp} {s₁ : Shared} {vs : List Value} {ns : List Int}
    (KX : K.In s₁.heap) (hns : s₁.heap.Ns mainGlobals mg) (hb : s₁.heap.Ns builtinsNs mb) (hbb : ∀ x : Str, x ≠ "__name__" → mb x = bootBuiltins x) (hlim : s₁.heap.NoLimit) (hg : s₁.gens = #[])
    (ha : s₁.heap.get? a = some { cls := .type "list", data := .seq vs.toArray }) (hi : IntsAre vs ns) (hl : ns.length ≤ sizeLine) (hr : Room k callerA)
    (F : ∀ base : Heap, K.In base → base.Ns mainGlobals mg → FnOk P w K mg base CX k fa fd [x] sp) (hbind : ∀ (s : Shared) (u : Value), BindsTo s fd ⟨[u], []⟩ [(x, u)])
    (hsp : ∀ H : Hp, Only H → SqL K H a (ns.map V.int) → sp [.ref a] H (fun v _ => v = .bl true) fun _ _ _ => False)
    (hCX : ∀ H e s', CX [] H s₁ (fun _ _ _ => False) e s' → False) :
    codeAny (model P w) callerA (.call (.ref fa) ⟨[.ref a], []⟩) (fun r s' => r = .ok (.ret (.bool true)) ∧ OldK s₁.heap s'.heap ∧ s'.os = s₁.os ∧ AllBare s'.gens) s₁ := by
  have rv := vals_ints hi
  have lenV := hi.length
  -- from an abstract heap in which nothing but the script may be tracked
  have core : ∀ H : Hp, Only H → SqL K H a (ns.map V.int) → HOk P w H s₁.heap → (∀ b, H b ≠ none → b = a) → (H a ≠ none → K.lookup a = none) →
      codeAny (model P w) callerA (.call (.ref fa) ⟨[.ref a], []⟩) (fun r s' => r = .ok (.ret (.bool true)) ∧ OldK s₁.heap s'.heap ∧ s'.os = s₁.os ∧ AllBare s'.gens) s₁ := by
    intro H hO hS hok hA hK
    have base_of : ∀ {b : Addr} {o : Obj}, s₁.heap.get? b = some o → H b = none → (hidT s₁.heap H).get? b = some o := fun e n => hidT_get e n
    have noA : ∀ {b : Addr} {o : Obj} {es : Array DictEntry} {ep : Nat}, s₁.heap.get? b = some o → o.data = .dict es ep → H b = none := fun {b o es ep} e d => by
      cases q : H b with
      | none => rfl
      | some u =>
        have e' : b = a := hA b (by rw [q]; simp)
        subst e'
        rw [ha] at e; cases e
        have d' : Data.seq vs.toArray _ = Data.dict es ep := d
        cases d'
    have nsK : ∀ {b : Addr} {m : Str → Option Value}, s₁.heap.Ns b m → (hidT s₁.heap H).Ns b m := fun {b m} ⟨o, es, ep, e, d, r⟩ => ⟨o, es, ep, base_of e (noA e d), d, r⟩
    have hKb : K.In (hidT s₁.heap H) := fun b o e => base_of (KX b o e) (by
      cases q : H b with
      | none => rfl
      | some u =>
        have e' : b = a := hA b (by rw [q]; simp)
        subst e'
        rw [hK (by rw [q]; simp)] at e; cases e)
    have hM : Mod K mg (hidT s₁.heap H) := ⟨hKb, nsK hns, ⟨mb, nsK hb, hbb⟩, let ⟨mc, h1, h2⟩ := hlim; ⟨mc, nsK h1, h2⟩⟩
    have e0 : Env0 P w K mg (hidT s₁.heap H) callerA [] s₁ H := ⟨rfl, hM, fun b o e => of_hidT e, Nat.le_of_eq (hidT_size _ _), trivial, fun b hb => absurd (show b ∈ ([] : List Addr) from hb) (by simp), hok, .of_eq hg⟩
    refine codeAny_mono ((F _ hKb (nsK hns)).run callerA [] s₁ H ⟨[.ref a], []⟩ [.ref a] [.ref a] _ _ hr e0 (hbind s₁ (.ref a)) (.cons rfl .nil) (hsp H hO hS)) fun r s' h => ?_
    cases r with
    | error e => exact (hCX H e s' h).elim
    | ok fl =>
      cases fl with
      | next => exact False.elim h
      | brk => exact False.elim h
      | cont => exact False.elim h
      | ret u =>
        obtain ⟨v, H', os, bare, un, hok', r', q⟩ := h
        have q' : v = .bl true := q
        subst q'
        obtain rfl : u = Value.bool true := r'
        refine ⟨rfl, OldK.of_keep fun b o e => ?_, os, bare⟩
        cases q : H b with
        | none => exact un.keep b o e q (by intro z; exact absurd (show b ∈ ([] : List Addr) from z) (by simp)) (by simp)
        | some u =>
          rcases hO b with z | ⟨ob, xs, z⟩
          · rw [q] at z; cases z
          · have z2 := un.frzs b ob _ z
            obtain ⟨e1, _⟩ := hok b _ z
            obtain ⟨e2, _⟩ := hok' b _ z2
            rw [e] at e1; cases e1
            exact e2
  cases hk : K.lookup a with
  | some o =>
    -- the script is one of the module's own objects
    have e := KX a o hk
    rw [ha] at e
    cases e
    refine core (fun _ => none) (fun _ => .inl rfl) (.inr ⟨_, vs.toArray, _, hk, rfl, rfl, rfl, by rw [List.size_toArray, lenV]; exact hl, by simpa using rv⟩) (fun b u z => by have z' : (none : Option HO) = some u := z; cases z') (fun b z => absurd rfl z) fun z => absurd rfl z
  | none =>
    refine core (fun b => if b = a then some (.frz { cls := .type "list", data := .seq vs.toArray } (.lst (ns.map V.int))) else none) (fun b => ?_) (.inl (.inr ⟨{ cls := .type "list", data := .seq vs.toArray }, if_pos rfl⟩)) (fun b u z => ?_) (fun b z => ?_) fun _ => hk
    · by_cases hb : b = a
      · exact .inr ⟨_, _, if_pos hb⟩
      · exact .inl (if_neg hb)
    · by_cases hb : b = a
      · have z' := (if_pos hb).symm.trans z
        cases z'
        subst hb
        exact ⟨ha, by rw [List.length_map]; exact hl, vs, _, rv, ha⟩
      · have z' := (if_neg hb).symm.trans z
        cases z'
    · by_cases hb : b = a
      · exact hb
      · exact absurd (if_neg hb) z
end L2

namespace L2
open PySem PySem.Spec PyProof.Rows

abbrev KOf {K : PySem.W.Frag} {h : Heap} (_ : K.In h) : PySem.W.Frag := K

/-- the goal that k_head leaves (case hc), from the law's promise. F gives the function object fd (K's own) once, then the promise over every base -/
theorem walk_of {l : PySem.W.OpenLaw} {n k : Nat} {q : Program} {loose : List Str} {XP : (Str → Option Value) → Heap → Prop} {YP : World → Heap → Prop} {d : DefRec} {K : Params → PySem.W.Frag} {CX : World → CXT} {sp : World → Sp} {x : Str}
    (hn : l.most = some n) (hn2 : n ≤ sizeLine) (hdf : d.params.defaults = []) (hr : Room k callerA)
    (hY : ∀ (w : World) (h : Heap), YP w h → (K w.params).In h)
    (F : ∀ (w : World) (mg : Str → Option Value) (fa : Addr) (h : Heap), (K w.params).In h → h.Ns mainGlobals mg → mg d.name = some (.ref fa) →
      ∃ fd : FuncData, (∀ (s : Shared) (u : Value), BindsTo s fd ⟨[u], []⟩ [(x, u)]) ∧
        ∀ base : Heap, (K w.params).In base → base.Ns mainGlobals mg → FnOk l.prog w (K w.params) mg base (CX w) k fa fd [x] (sp w))
    (hsp : ∀ (w : World) (H : Hp) (a : Addr) (ns : List Int), ns.length ≤ n → Only H → SqL (K w.params) H a (ns.map V.int) → sp w [.ref a] H (fun v _ => v = .bl true) fun _ _ _ => False)
    (hCX : ∀ (w : World) (H : Hp) (s : Shared) (e : Value) (s' : Shared), CX w [] H s (fun _ _ _ => False) e s' → False) :
    PySem.W.WalkO q loose XP YP l.row.toRowW d [] (fun f vs => PySem.call f vs) := by
  refine Att.attach_call hn hdf fun w s₀ s₁ mg mb fa o pm cd doc a vs ns G Y ho hd hcd hmg hobj hints hlen hg => ?_
  have KX := hY w _ Y
  obtain ⟨fd, hb, hF⟩ := F w mg fa _ KX G.T.g hmg
  exact law_call KX G.T.g G.T.b G.T.builtins G.T.nolimit hg hobj hints (Nat.le_trans hlen hn2) hr hF hb (fun H hO hS => hsp w H a ns hlen hO hS) fun H e s' => hCX w H s₁ e s'
/-- the same where the promise hangs on the written part alone: (sp := My.sp_law), no hole under a binder -/
theorem walk_ofK {l : PySem.W.OpenLaw} {n k : Nat} {q : Program} {loose : List Str} {XP : (Str → Option Value) → Heap → Prop} {YP : World → Heap → Prop} {d : DefRec} {K : Params → PySem.W.Frag} {CX : CXT} {sp : PySem.W.Frag → Sp} {x : Str}
    (hn : l.most = some n) (hn2 : n ≤ sizeLine) (hdf : d.params.defaults = []) (hr : Room k callerA)
    (hY : ∀ (w : World) (h : Heap), YP w h → (K w.params).In h)
    (F : ∀ (w : World) (mg : Str → Option Value) (fa : Addr) (h : Heap), (K w.params).In h → h.Ns mainGlobals mg → mg d.name = some (.ref fa) →
      ∃ fd : FuncData, (∀ (s : Shared) (u : Value), BindsTo s fd ⟨[u], []⟩ [(x, u)]) ∧
        ∀ base : Heap, (K w.params).In base → base.Ns mainGlobals mg → FnOk l.prog w (K w.params) mg base CX k fa fd [x] (sp (K w.params)))
    (hsp : ∀ (K : PySem.W.Frag) (H : Hp) (a : Addr) (ns : List Int), ns.length ≤ n → Only H → SqL K H a (ns.map V.int) → sp K [.ref a] H (fun v _ => v = .bl true) fun _ _ _ => False)
    (hCX : ∀ (H : Hp) (s : Shared) (e : Value) (s' : Shared), CX [] H s (fun _ _ _ => False) e s' → False) :
    PySem.W.WalkO q loose XP YP l.row.toRowW d [] (fun f vs => PySem.call f vs) :=
  walk_of (K := K) (CX := fun _ => CX) (sp := fun w => sp (K w.params)) hn hn2 hdf hr hY F (fun w H a ns h1 h2 h3 => hsp (K w.params) H a ns h1 h2 h3) fun _ H s e s' => hCX H s e s'
end L2

/- THE LAST THEOREM (shape; LID, My.* are yours):
   My.Adr: a structure of the addresses that your layer names (classes, functions); My.Txt K t: a structure (Prop) of the equations over K;
   My.txt_mk : {K} {implicit addresses ..} (e1 : nsIn K mainGlobals "law" = some (some (.ref f))) (e2 : K.lookup f = some ⟨oc, od, .func (fnOf "law" "law" params body scope dV kV doc pm an cdv ct), sl⟩) (e3 : codeIn K cdv "law" = true) .. : ∃ t, My.Txt K t

set_option maxRecDepth 100000 in
set_option maxHeartbeats 0 in
theorem PySem.Challenge.cw_LID_holds : PySem.Challenge.rw_LID.Holds := by
  w_on; o_law; k_head; (case hw => w_witness2)
  k_fill
  refine L2.walk_of (l := PySem.Challenge.rw_LID) (n := 63) (k := 40) (x := "script") (CX := fun w => ..) (sp := fun _ => My.sp_law) rfl (by decide) rfl ⟨rfl, by decide, by decide⟩ (fun w h Y => PySem.W.kIn_of Y) ?F ?S ?C
  case F =>
    intro w mg fa h KX G hmg
    have T : ∃ t, My.Txt (L2.KOf KX) t := by
      dsimp only [L2.KOf]                          -- K must stand as «<heap const> w.params» for k_is
      refine' My.txt_mk ?e1 ?e2 ?e3 ..
      (case e1 => PySem.W.k_is)                    -- in the order: a name -> its address -> its object -> its parts
      (case e2 => PySem.W.k_is)
      ..
    obtain ⟨t, T⟩ := T
    have e0 := hmg.symm.trans (PySem.W.mg_of KX G T.law)
    cases e0                                       -- fa is the law's own address
    exact ⟨_, fun s u => .of_eq rfl, fun base kb nb => My.law_fn T kb nb⟩     -- if «.of_eq rfl» comes too early: refine' ⟨_, ?b, fun base kb nb => My.law_fn T kb nb⟩; exact fun s u => .of_eq rfl
  case S => exact fun w H a ns hl hO hS => ..
  case C => exact ..
(the tactic k_is has no namespace: write k_is) -/

/-! SHORT WORDS over the layer: a def of the text, its body, what a loop and a test want. -/
namespace L2
open PySem PySem.Spec PyProof.Rows

/-! ### the text by places -/
/-- the j-th statement of a class's body -/
def inClass (s : Stmt) (j : Nat) : Stmt := match s with
  | .ClassDef _ _ _ body _ _ _ _ _ _ _ => body.getD j (.Pass ⟨0, 0, 0, 0⟩)
  | _ => .Pass ⟨0, 0, 0, 0⟩
def defArgs (s : Stmt) : Arguments := match s with
  | .FunctionDef _ a _ _ _ _ _ _ _ _ => a
  | _ => { posonlyargs := [], args := [], vararg := none, kwonlyargs := [], kw_defaults := [], kwarg := none, defaults := [] }
def defBody (s : Stmt) : List Stmt := match s with
  | .FunctionDef _ _ b _ _ _ _ _ _ _ => b
  | _ => []
def defScope (s : Stmt) : Scope := match s with
  | .FunctionDef _ _ _ _ _ _ sc _ _ _ => sc
  | _ => { kind := .function, names := [], isGenerator := false, isCoroutine := false }

/-! ### no exception leaves a def -/
abbrev CX0 : CXT := fun _ _ _ _ _ _ => False
abbrev E0 : XK := fun _ _ _ => False
theorem pass0 {X : Cx} : Passes CX0 X E0 := fun _ _ _ _ _ _ _ h => h.elim

/-! ### a def (or method) of the text as it stands behind the top -/
structure Fun (K : PySem.W.Frag) (x qual : Str) (st : Stmt) (f : Addr) (fd : FuncData) : Prop where
  ex : ∃ (oc : Value) (od : Option Addr) (kV doc pm : Value) (an : Option Addr) (cdv ct : Value) (osl : Array (Option Value)),
    fd = PySem.W.fnOf x qual (defArgs st) (defBody st) (defScope st) .none kV doc pm an cdv ct ∧ K.lookup f = some ⟨oc, od, .func fd, osl⟩ ∧ PySem.W.codeIn K cdv qual = true
  kp : PySem.W.keepIn K (.ref f) = true
section
variable {P : Program} {w : World} {K : PySem.W.Frag} {mg : Str → Option Value} {base : Heap}
/-- THE RULE for a def: its body as a term of rules, and the reading of that term -/
theorem Fun.ok {x qual : Str} {st : Stmt} {f : Addr} {fd : FuncData} {N ps : List Str} {k : Nat} {sp : Sp} (F : Fun K x qual st f fd) (S : FnScope N ps (defScope st)) (len : ∀ vs H Q E, sp vs H Q E → vs.length = ps.length)
    (hbody : ∀ (cdv : Value) (A : Around) (outer : List Env) (s : Shared) (H : Hp) (vs : List V) (Q : VK) (E : XK), Room k (A.deeper (envOfC qual (defScope st) s.heap.objs.size f cdv)) → sp vs H Q E →
      ∃ t, PSs (cxOf CX0 P w K mg base N qual (defScope st) f cdv A outer s H E).nox (defBody st) t ∧ t { nx := fun _ H' => Q .non H', rt := Q } (start N vs) H) : FnOk P w K mg base CX0 (k + 1) f fd ps sp := by
  obtain ⟨oc, od, kV, doc, pm, an, cdv, ct, osl, rfl, lk, hcd⟩ := F.ex
  refine fn_of lk hcd S len fun A outer s H vs Q E hr hsp => ?_
  obtain ⟨t, h, q⟩ := hbody cdv A outer s H vs Q E hr hsp
  exact ⟨t, h.nox, q⟩
/-- how its arguments bind (no defaults): h is «fun _ _ _ _ _ _ us hl => match us, hl with | [_, _], _ => rfl», one _ a parameter -/
theorem Fun.binds {x qual : Str} {st : Stmt} {f : Addr} {fd : FuncData} {ps : List Str} (F : Fun K x qual st f fd)
    (h : ∀ (kV doc pm : Value) (an : Option Addr) (cdv ct : Value) (us : List Value), us.length = ps.length → bindArgs (PySem.W.fnOf x qual (defArgs st) (defBody st) (defScope st) .none kV doc pm an cdv ct) ⟨us, []⟩ = pure (ps.zip us)) : Binds K fd ps [] := by
  obtain ⟨oc, od, kV, doc, pm, an, cdv, ct, osl, rfl, lk, hcd⟩ := F.ex
  exact .all (h kV doc pm an cdv ct)
theorem fun_mk {x qual : Str} {st : Stmt} {f : Addr} {oc : Value} {od an : Option Addr} {osl : Array (Option Value)} {kV doc pm cdv ct : Value} (l : K.lookup f = some ⟨oc, od, .func (PySem.W.fnOf x qual (defArgs st) (defBody st) (defScope st) .none kV doc pm an cdv ct), osl⟩)
    (c : PySem.W.codeIn K cdv qual = true) (k : PySem.W.keepIn K (.ref f) = true) : Fun K x qual st f (PySem.W.fnOf x qual (defArgs st) (defBody st) (defScope st) .none kV doc pm an cdv ct) := ⟨⟨oc, od, kV, doc, pm, an, cdv, ct, osl, rfl, l, c⟩, k⟩
end
theorem hu_of {A : Around} {k : Nat} (hr : Room k A) : A.units + 1 < cLine := Nat.lt_of_le_of_lt (Nat.add_le_add_left (by decide : 1 ≤ 64) _) hr.units
theorem small1000 {n : Nat} (h : n ≤ 1000) : n < sizeLine := Nat.lt_of_le_of_lt h (by decide)

/-! ### expressions in short: the name that stands in the i-th slot -/
section
variable {X : Cx}
theorem pv (i : Nat) {x : Str} {pos : Pos} (hN : X.N[i]? = some x := by rfl) (hv : Vis X.env.scope x := by first | exact Or.inl rfl | exact Or.inr (Or.inl rfl) | exact Or.inr (Or.inr rfl)) (hd : (x == ("__debug__" : Str)) = false := by decide)
    (hcd : (x == ("__classdict__" : Str)) = false := by decide) : PE X (.Name x pos) (tVar i) := pe_var hN hv hd hcd
end

/-! ### tests -/
theorem iteF {A B : Prop} (h : B) : if false = true then A else B := by
  rw [if_neg Bool.false_ne_true]
  exact h
theorem iteT {A B : Prop} (h : A) : if true = true then A else B := by
  rw [if_pos rfl]
  exact h
theorem ite2 {c A B : Prop} [Decidable c] (h1 : c → A) (h2 : ¬ c → B) : if c then A else B := by
  by_cases h : c
  · rw [if_pos h]
    exact h1 h
  · rw [if_neg h]
    exact h2 h
theorem iteNS {c A B : Prop} [Decidable c] (hc : c) (h : B) : if (!decide c) = true then A else B := by
  rw [decide_eq_true hc]
  exact iteF h

/-! ### heaps -/
/-- all that was tracked is as it was -/
def Same (H H' : Hp) : Prop := ∀ b o, H b = some o → H' b = some o
theorem Same.refl (H : Hp) : Same H H := fun _ _ h => h
theorem Same.trans {H H1 H2 : Hp} (a : Same H H1) (b : Same H1 H2) : Same H H2 := fun c o h => b c o (a c o h)
theorem Same.free {H H' : Hp} (e : Same H H') {l : Addr} (h : H' l = Option.none) : H l = Option.none := by
  cases q : H l with
  | none => rfl
  | some o =>
    rw [e l o q] at h
    cases h
theorem Same.seq {K : PySem.W.Frag} {H H' : Hp} {a : Addr} {xs : List V} (e : Same H H') (h : SqL K H a xs) : SqL K H' a xs := by
  rcases h with (h | ⟨o, h⟩) | h
  · exact .inl (.inl (e _ _ h))
  · exact .inl (.inr ⟨o, e _ _ h⟩)
  · exact .inr h

end L2
namespace DD
open PySem PySem.Spec PyProof.Rows L2

abbrev St := L2.St
/-! ### data -/
inductive D where
  | non | bl (b : Bool) | int (i : Int) | str (s : List Nat) | tup (l : List D) | lst (l : List D) | ty (n : String) | ref (a : Addr)

/-- a list that is read: tracked and not owned, or one of the module's own -/
def LsAt (K : PySem.W.Frag) (O : Addr → Prop) (H : Hp) (a : Addr) (xs : List V) : Prop :=
  (¬ O a ∧ Rd H a (.lst xs)) ∨ ∃ (o : Obj) (its : Array Value) (n : Nat), K.lookup a = some o ∧ o.cls = .type "list" ∧ o.dict = none ∧ o.data = .seq its n ∧ its.size ≤ sizeLine ∧ Vals xs its.toList
theorem LsAt.sq {K : PySem.W.Frag} {O : Addr → Prop} {H : Hp} {a : Addr} {xs : List V} (h : LsAt K O H a xs) : SqL K H a xs := h.imp (·.2) id
mutual
def Is (K : PySem.W.Frag) (O : Addr → Prop) (H : Hp) : D → V → Prop
  | .non, v => v = .non
  | .bl b, v => v = .bl b
  | .int i, v => v = .int i
  | .str s, v => v = .str ⟨s.toArray⟩
  | .ty n, v => v = .ty n
  | .ref a, v => v = .ref a
  | .tup l, v => ∃ a xs, v = .ref a ∧ SqT K H a xs ∧ IsL K O H l xs
  | .lst l, v => ∃ a xs, v = .ref a ∧ LsAt K O H a xs ∧ IsL K O H l xs
def IsL (K : PySem.W.Frag) (O : Addr → Prop) (H : Hp) : List D → List V → Prop
  | [], vs => vs = []
  | d :: l, vs => ∃ v r, vs = v :: r ∧ Is K O H d v ∧ IsL K O H l r
end

/-- owned lists are plain lists of the abstract heap -/
def OLst (O : Addr → Prop) (H : Hp) : Prop := ∀ a, O a → ∃ xs, H a = some (.lst xs)
/-- all that is not owned is kept -/
def Keep (O : Addr → Prop) (H H' : Hp) : Prop := ∀ b o, H b = some o → ¬ O b → H' b = some o

theorem Rd.some {H : Hp} {a : Addr} {u : HO} (h : Rd H a u) : ∃ o, H a = some o := by
  rcases h with h | ⟨o, h⟩
  · exact ⟨_, h⟩
  · exact ⟨_, h⟩

theorem SqT.keep {K : PySem.W.Frag} {O : Addr → Prop} {H H' : Hp} {a : Addr} {xs : List V} (k : Keep O H H') (o : OLst O H) (h : SqT K H a xs) : SqT K H' a xs := by
  rcases h with (h | ⟨ob, h⟩) | h
  · exact .inl (.inl (k _ _ h fun z => by obtain ⟨ys, q⟩ := o a z; rw [h] at q; cases q))
  · exact .inl (.inr ⟨ob, k _ _ h fun z => by obtain ⟨ys, q⟩ := o a z; rw [h] at q; cases q⟩)
  · exact .inr h
theorem Rd.keep {O : Addr → Prop} {H H' : Hp} {a : Addr} {u : HO} (k : Keep O H H') (n : ¬ O a) (h : Rd H a u) : Rd H' a u := by
  rcases h with h | ⟨ob, h⟩
  · exact .inl (k _ _ h n)
  · exact .inr ⟨ob, k _ _ h n⟩

mutual
theorem Is.mono {K : PySem.W.Frag} {O O' : Addr → Prop} {H H' : Hp} (k : Keep O H H') (ol : OLst O H) (oo : ∀ a, O' a → H a ≠ none → O a) : ∀ (d : D) (v : V), Is K O H d v → Is K O' H' d v
  | .non, v, h => by unfold Is at h ⊢; exact h
  | .bl b, v, h => by unfold Is at h ⊢; exact h
  | .int i, v, h => by unfold Is at h ⊢; exact h
  | .str s, v, h => by unfold Is at h ⊢; exact h
  | .ty n, v, h => by unfold Is at h ⊢; exact h
  | .ref a, v, h => by unfold Is at h ⊢; exact h
  | .tup l, v, h => by
    unfold Is at h ⊢
    obtain ⟨a, xs, e, q, r⟩ := h
    exact ⟨a, xs, e, SqT.keep k ol q, IsL.mono k ol oo l xs r⟩
  | .lst l, v, h => by
    unfold Is at h ⊢
    obtain ⟨a, xs, e, nq, r⟩ := h
    refine ⟨a, xs, e, ?_, IsL.mono k ol oo l xs r⟩
    rcases nq with ⟨n, q⟩ | q
    · exact .inl ⟨fun z => n (oo a z (by obtain ⟨o, q⟩ := Rd.some q; rw [q]; simp)), Rd.keep k n q⟩
    · exact .inr q
theorem IsL.mono {K : PySem.W.Frag} {O O' : Addr → Prop} {H H' : Hp} (k : Keep O H H') (ol : OLst O H) (oo : ∀ a, O' a → H a ≠ none → O a) : ∀ (l : List D) (vs : List V), IsL K O H l vs → IsL K O' H' l vs
  | [], vs, h => by unfold IsL at h ⊢; exact h
  | d :: l, vs, h => by
    unfold IsL at h ⊢
    obtain ⟨v, r, e, h1, h2⟩ := h
    exact ⟨v, r, e, Is.mono k ol oo d v h1, IsL.mono k ol oo l r h2⟩
end
theorem Same.kp {H H' : Hp} (s : Same H H') (O : Addr → Prop) : Keep O H H' := fun b o e _ => s b o e
theorem Is.same {K : PySem.W.Frag} {O : Addr → Prop} {H H' : Hp} {d : D} {v : V} (s : Same H H') (ol : OLst O H) (h : Is K O H d v) : Is K O H' d v := Is.mono (Same.kp s O) ol (fun _ z _ => z) d v h
theorem IsL.same {K : PySem.W.Frag} {O : Addr → Prop} {H H' : Hp} {l : List D} {vs : List V} (s : Same H H') (ol : OLst O H) (h : IsL K O H l vs) : IsL K O H' l vs := IsL.mono (Same.kp s O) ol (fun _ z _ => z) l vs h

section
variable {K : PySem.W.Frag} {O : Addr → Prop} {H : Hp}
theorem IsL.length : ∀ {l : List D} {vs : List V}, IsL K O H l vs → l.length = vs.length
  | [], vs, h => by unfold IsL at h; subst h; rfl
  | d :: l, vs, h => by unfold IsL at h; obtain ⟨v, r, rfl, _, h2⟩ := h; simp [IsL.length h2]
theorem IsL.get : ∀ {l : List D} {vs : List V} {i : Nat} {d : D}, IsL K O H l vs → l[i]? = some d → ∃ v, vs[i]? = some v ∧ Is K O H d v
  | [], _, _, _, _, e => by simp at e
  | d :: l, vs, 0, d', h, e => by
    unfold IsL at h; obtain ⟨v, r, rfl, h1, h2⟩ := h
    simp at e; subst e; exact ⟨v, rfl, h1⟩
  | d :: l, vs, i + 1, d', h, e => by
    unfold IsL at h; obtain ⟨v, r, rfl, h1, h2⟩ := h
    obtain ⟨u, q1, q2⟩ := IsL.get (i := i) h2 (by simpa using e)
    exact ⟨u, by simpa using q1, q2⟩
theorem IsL.nil : IsL K O H [] [] := by unfold IsL; rfl
theorem IsL.cons {d : D} {v : V} {l : List D} {vs : List V} (h : Is K O H d v) (t : IsL K O H l vs) : IsL K O H (d :: l) (v :: vs) := by unfold IsL; exact ⟨v, vs, rfl, h, t⟩
theorem IsL.append : ∀ {l m : List D} {vs us : List V}, IsL K O H l vs → IsL K O H m us → IsL K O H (l ++ m) (vs ++ us)
  | [], _, _, _, h, t => by unfold IsL at h; subst h; exact t
  | d :: l, m, vs, us, h, t => by unfold IsL at h; obtain ⟨v, r, rfl, h1, h2⟩ := h; exact .cons h1 (IsL.append h2 t)
theorem IsL.take : ∀ {l : List D} {vs : List V} (n : Nat), IsL K O H l vs → IsL K O H (l.take n) (vs.take n)
  | _, _, 0, _ => by simpa using IsL.nil
  | [], _, _ + 1, h => by unfold IsL at h; subst h; simpa using IsL.nil
  | d :: l, vs, n + 1, h => by unfold IsL at h; obtain ⟨v, r, rfl, h1, h2⟩ := h; exact .cons h1 (IsL.take n h2)
theorem IsL.drop : ∀ {l : List D} {vs : List V} (n : Nat), IsL K O H l vs → IsL K O H (l.drop n) (vs.drop n)
  | _, _, 0, h => h
  | [], _, _ + 1, h => by unfold IsL at h; subst h; simpa using IsL.nil
  | d :: l, vs, n + 1, h => by unfold IsL at h; obtain ⟨v, r, rfl, h1, h2⟩ := h; exact IsL.drop n h2
theorem IsL.reverse : ∀ {l : List D} {vs : List V}, IsL K O H l vs → IsL K O H l.reverse vs.reverse
  | [], _, h => by unfold IsL at h; subst h; exact IsL.nil
  | d :: l, vs, h => by
    unfold IsL at h; obtain ⟨v, r, rfl, h1, h2⟩ := h
    rw [List.reverse_cons, List.reverse_cons]; exact (IsL.reverse h2).append (.cons h1 .nil)
theorem IsL.inv1 {d : D} {vs : List V} (h : IsL K O H [d] vs) : ∃ v, vs = [v] ∧ Is K O H d v := by
  unfold IsL at h
  obtain ⟨v, r, rfl, h1, h2⟩ := h
  unfold IsL at h2; subst h2
  exact ⟨v, rfl, h1⟩
theorem IsL.inv2 {d e : D} {vs : List V} (h : IsL K O H [d, e] vs) : ∃ v u, vs = [v, u] ∧ Is K O H d v ∧ Is K O H e u := by
  unfold IsL at h
  obtain ⟨v, r, rfl, h1, h2⟩ := h
  obtain ⟨u, rfl, h3⟩ := h2.inv1
  exact ⟨v, u, rfl, h1, h3⟩
theorem IsL.inv3 {d e f : D} {vs : List V} (h : IsL K O H [d, e, f] vs) : ∃ v u w, vs = [v, u, w] ∧ Is K O H d v ∧ Is K O H e u ∧ Is K O H f w := by
  unfold IsL at h
  obtain ⟨v, r, rfl, h1, h2⟩ := h
  obtain ⟨u, w, rfl, h3, h4⟩ := h2.inv2
  exact ⟨v, u, w, rfl, h1, h3, h4⟩
theorem Is.int_iff {i : Int} {v : V} : Is K O H (.int i) v ↔ v = .int i := by unfold Is; exact Iff.rfl
theorem Is.bl_iff {b : Bool} {v : V} : Is K O H (.bl b) v ↔ v = .bl b := by unfold Is; exact Iff.rfl
theorem Is.str_iff {s : List Nat} {v : V} : Is K O H (.str s) v ↔ v = .str ⟨s.toArray⟩ := by unfold Is; exact Iff.rfl
theorem Is.non_iff {v : V} : Is K O H .non v ↔ v = .non := by unfold Is; exact Iff.rfl
theorem Is.ty_iff {n : String} {v : V} : Is K O H (.ty n) v ↔ v = .ty n := by unfold Is; exact Iff.rfl
theorem Is.ref_iff {a : Addr} {v : V} : Is K O H (.ref a) v ↔ v = .ref a := by unfold Is; exact Iff.rfl
theorem Is.tup_iff {l : List D} {v : V} : Is K O H (.tup l) v ↔ ∃ a xs, v = .ref a ∧ SqT K H a xs ∧ IsL K O H l xs := by unfold Is; exact Iff.rfl
theorem Is.lst_iff {l : List D} {v : V} : Is K O H (.lst l) v ↔ ∃ a xs, v = .ref a ∧ LsAt K O H a xs ∧ IsL K O H l xs := by unfold Is; exact Iff.rfl
end

/-! ### the frame's slots -/
inductive Sl where
  | un | v (d : D) | o (l : List D) | p (l : List D) | z (l : List D)
abbrev En := List Sl
/-- a list of the frame's own: free to be changed, a parameter's, or held still -/
def Sl.own : Sl → Option (List D)
  | .o l => some l
  | .p l => some l
  | .z l => some l
  | _ => none
def Sl.mt : Sl → Option (List D)
  | .o l => some l
  | .p l => some l
  | _ => none
def AtS (q : Sl → Option (List D)) (r : En) (σ : St) (a : Addr) : Prop := ∃ (i : Nat) (l : List D), (r[i]?).bind q = some l ∧ σ[i]? = some (some (.ref a))
abbrev OwnAt := AtS Sl.own
abbrev MutAt := AtS Sl.mt
theorem mt_own {x : Sl} {l : List D} (h : x.mt = some l) : x.own = some l := by
  cases x <;> first | (cases h; rfl) | cases h
theorem MutAt.own {r : En} {σ : St} {a : Addr} (h : MutAt r σ a) : OwnAt r σ a := by
  obtain ⟨i, l, e, q⟩ := h
  obtain ⟨x, e1, e2⟩ := Option.bind_eq_some_iff.mp e
  exact ⟨i, l, by rw [e1]; exact mt_own e2, q⟩
def Ow (O0 : Addr → Prop) (r : En) (σ : St) : Addr → Prop := fun a => O0 a ∨ OwnAt r σ a

structure R (K : PySem.W.Frag) (O0 : Addr → Prop) (H : Hp) (r : En) (σ : St) : Prop where
  len : r.length = σ.length
  val : ∀ (i : Nat) (d : D), r[i]? = some (.v d) → ∃ v, σ[i]? = some (some v) ∧ Is K (Ow O0 r σ) H d v
  own : ∀ (i : Nat) (l : List D), (r[i]?).bind Sl.own = some l → ∃ a xs, σ[i]? = some (some (.ref a)) ∧ H a = some (.lst xs) ∧ IsL K (Ow O0 r σ) H l xs
  apart : ∀ (i j : Nat) (a : Addr) (l m : List D), (r[i]?).bind Sl.own = some l → (r[j]?).bind Sl.own = some m → σ[i]? = some (some (.ref a)) → σ[j]? = some (some (.ref a)) → i = j
  o0 : OLst O0 H
  loc : ∀ (i : Nat) (l : List D) (a : Addr), (r[i]? = some (.o l) ∨ r[i]? = some (.z l)) → σ[i]? = some (some (.ref a)) → ¬ O0 a
  par : ∀ (i : Nat) (l : List D) (a : Addr), r[i]? = some (.p l) → σ[i]? = some (some (.ref a)) → O0 a

theorem R.ol {K : PySem.W.Frag} {O0 : Addr → Prop} {H : Hp} {r : En} {σ : St} (h : R K O0 H r σ) : OLst (Ow O0 r σ) H := fun a z => by
  rcases z with z | ⟨i, l, e, q⟩
  · exact h.o0 a z
  · obtain ⟨b, xs, e1, e2, _⟩ := h.own i l e
    rw [q] at e1; cases e1
    exact ⟨xs, e2⟩
theorem R.nofresh {K : PySem.W.Frag} {O0 : Addr → Prop} {H : Hp} {r : En} {σ : St} (h : R K O0 H r σ) {a : Addr} (n : H a = none) : ¬ Ow O0 r σ a := fun z => by
  obtain ⟨xs, e⟩ := h.ol a z
  rw [n] at e; cases e
theorem R.same {K : PySem.W.Frag} {O0 : Addr → Prop} {H H' : Hp} {r : En} {σ : St} (h : R K O0 H r σ) (s : Same H H') : R K O0 H' r σ where
  len := h.len
  val := fun i d e => by obtain ⟨v, e1, q⟩ := h.val i d e; exact ⟨v, e1, q.same s h.ol⟩
  own := fun i l e => by obtain ⟨a, xs, e1, e2, q⟩ := h.own i l e; exact ⟨a, xs, e1, s _ _ e2, q.same s h.ol⟩
  apart := h.apart
  o0 := fun a z => by obtain ⟨xs, e⟩ := h.o0 a z; exact ⟨xs, s _ _ e⟩
  loc := h.loc
  par := h.par

/-- from one state of the frame to a later one -/
structure Kp (H : Hp) (r : En) (σ : St) (H' : Hp) (r' : En) (σ' : St) : Prop where
  keep : Keep (MutAt r σ) H H'
  live : ∀ b, H' b = none → H b = none
  lst : ∀ b xs, H b = some (.lst xs) → ∃ ys, H' b = some (.lst ys)
  new : ∀ b, OwnAt r' σ' b → OwnAt r σ b ∨ H b = none
  mnew : ∀ b, MutAt r' σ' b → MutAt r σ b ∨ H b = none
  par : ∀ (i : Nat) (l : List D), r[i]? = some (.p l) → (∃ l', r'[i]? = some (.p l')) ∧ σ'[i]? = σ[i]?
  fz : ∀ (i : Nat) (l : List D), r[i]? = some (.z l) → r'[i]? = some (.z l) ∧ σ'[i]? = σ[i]?
theorem Kp.of_same {H H' : Hp} (r : En) (σ : St) (s : Same H H') : Kp H r σ H' r σ :=
  ⟨fun b o e _ => s b o e, fun b e => s.free e, fun b xs e => ⟨xs, s _ _ e⟩, fun b z => .inl z, fun b z => .inl z, fun i l e => ⟨⟨l, e⟩, rfl⟩, fun i l e => ⟨e, rfl⟩⟩
theorem Kp.refl (H : Hp) (r : En) (σ : St) : Kp H r σ H r σ := .of_same r σ (Same.refl H)
theorem Kp.trans {H H1 H2 : Hp} {r r1 r2 : En} {σ σ1 σ2 : St} (a : Kp H r σ H1 r1 σ1) (b : Kp H1 r1 σ1 H2 r2 σ2) : Kp H r σ H2 r2 σ2 where
  keep := fun c o e n => b.keep c o (a.keep c o e n) fun z => (a.mnew c z).elim n fun q => by rw [e] at q; cases q
  live := fun c e => a.live c (b.live c e)
  lst := fun c xs e => by obtain ⟨ys, q⟩ := a.lst c xs e; exact b.lst c ys q
  new := fun c z => (b.new c z).elim (a.new c) fun q => .inr (a.live c q)
  mnew := fun c z => (b.mnew c z).elim (a.mnew c) fun q => .inr (a.live c q)
  par := fun i l e => by
    obtain ⟨⟨l1, e1⟩, q1⟩ := a.par i l e
    obtain ⟨⟨l2, e2⟩, q2⟩ := b.par i l1 e1
    exact ⟨⟨l2, e2⟩, q2.trans q1⟩
  fz := fun i l e => by
    obtain ⟨e1, q1⟩ := a.fz i l e
    obtain ⟨e2, q2⟩ := b.fz i l e1
    exact ⟨e2, q2.trans q1⟩

/-! ### the judgements -/
theorem PE.conseq {X : Cx} {e : Expr} {t t' : TE} (h : PE X e t) (i : ∀ σ H Q, t' σ H Q → t σ H Q) : PE X e t' := fun pins s σ H Q I q => h pins s σ H Q I (i σ H Q q)
theorem PT.conseq {X : Cx} {e : Expr} {t t' : TT} (h : PT X e t) (i : ∀ σ H Q, t' σ H Q → t σ H Q) : PT X e t' := fun pins s σ H Q I q => h pins s σ H Q I (i σ H Q q)
theorem PA.conseq {X : Cx} {e : List Expr} {t t' : TA} (h : PA X e t) (i : ∀ σ H Q, t' σ H Q → t σ H Q) : PA X e t' := fun pos pins s σ H Q I q => h pos pins s σ H Q I (i σ H Q q)
theorem PS.conseq {X : Cx} {st : Stmt} {t t' : TS} (h : PS X st t) (i : ∀ D σ H, t' D σ H → t D σ H) : PS X st t' := fun pins s σ H D I q => h pins s σ H D I (i D σ H q)
theorem PSs.conseq {X : Cx} {st : List Stmt} {t t' : TS} (h : PSs X st t) (i : ∀ D σ H, t' D σ H → t D σ H) : PSs X st t' := fun pins s σ H D I q => h pins s σ H D I (i D σ H q)

abbrev ME := En → Option D
abbrev ML := En → Option (List D)
abbrev MB := En → Option Bool

def lE (K : PySem.W.Frag) (f : ME) : TE := fun σ H Q => ∃ O0 r d, R K O0 H r σ ∧ f r = some d ∧ ∀ v H', Same H H' → Is K (Ow O0 r σ) H' d v → Q v H'
def lT (K : PySem.W.Frag) (f : MB) : TT := fun σ H Q => ∃ O0 r b, R K O0 H r σ ∧ f r = some b ∧ ∀ H', Same H H' → Q b H'
def lA (K : PySem.W.Frag) (f : ML) : TA := fun σ H Q => ∃ O0 r l, R K O0 H r σ ∧ f r = some l ∧ ∀ vs H', Same H H' → IsL K (Ow O0 r σ) H' l vs → Q vs H'
/-- a new list -/
def lF (K : PySem.W.Frag) (f : ML) : TE := fun σ H Q => ∃ O0 r l, R K O0 H r σ ∧ f r = some l ∧ ∀ a xs H', Same H H' → H a = none → H' a = some (.lst xs) → IsL K (fun b => Ow O0 r σ b ∨ b = a) H' l xs → Q (.ref a) H'
/-- a list that is read on the spot -/
def lB (K : PySem.W.Frag) (f : ML) : TE := fun σ H Q => ∃ O0 r l, R K O0 H r σ ∧ f r = some l ∧ ∀ a xs H', Same H H' → SqL K H' a xs → IsL K (Ow O0 r σ) H' l xs → Q (.ref a) H'
/-- an expression that changes owned lists -/
def lX (K : PySem.W.Frag) (f : En → Option (D × En)) : TE := fun σ H Q => ∃ O0 r d r', R K O0 H r σ ∧ f r = some (d, r') ∧ ∀ v H', R K O0 H' r' σ → Kp H r σ H' r' σ → Is K (Ow O0 r' σ) H' d v → Q v H'
def DE (X : Cx) (e : Expr) (f : ME) : Prop := PE X e (lE X.K f)
def DT (X : Cx) (e : Expr) (f : MB) : Prop := PT X e (lT X.K f)
def DA (X : Cx) (es : List Expr) (f : ML) : Prop := PA X es (lA X.K f)
def DF (X : Cx) (e : Expr) (f : ML) : Prop := PE X e (lF X.K f)
def DB (X : Cx) (e : Expr) (f : ML) : Prop := PE X e (lB X.K f)
def DX (X : Cx) (e : Expr) (f : En → Option (D × En)) : Prop := PE X e (lX X.K f)

inductive Fl where
  | nx (r : En) | bk (r : En) | ct (r : En) | rt (d : D) (r : En) | rf (l : List D) (r : En)
abbrev MS := En → Option Fl
/-- a list that is new here, or one that the frame owns by itself -/
def FrA (H : Hp) (r : En) (σ : St) (a : Addr) : Prop := H a = none ∨ ∃ (i : Nat) (l : List D), r[i]? = some (.o l) ∧ σ[i]? = some (some (.ref a))
def PostS (K : PySem.W.Frag) (O0 : Addr → Prop) (H : Hp) (r : En) (σ : St) (Dn : Ends) : Fl → Prop
  | .nx r' => ∀ σ' H', R K O0 H' r' σ' → Kp H r σ H' r' σ' → Dn.nx σ' H'
  | .bk r' => ∀ σ' H', R K O0 H' r' σ' → Kp H r σ H' r' σ' → Dn.bk σ' H'
  | .ct r' => ∀ σ' H', R K O0 H' r' σ' → Kp H r σ H' r' σ' → Dn.ct σ' H'
  | .rt d r' => ∀ v σ' H', R K O0 H' r' σ' → Kp H r σ H' r' σ' → Is K O0 H' d v → Dn.rt v H'
  | .rf l r' => ∀ a xs σ' H', R K O0 H' r' σ' → Kp H r σ H' r' σ' → FrA H r σ a → ¬ O0 a → H' a = some (.lst xs) → IsL K (fun b => O0 b ∨ b = a) H' l xs → Dn.rt (.ref a) H'
def lS (K : PySem.W.Frag) (g : MS) : TS := fun Dn σ H => ∃ O0 r fl, R K O0 H r σ ∧ g r = some fl ∧ PostS K O0 H r σ Dn fl
def DS (X : Cx) (st : Stmt) (g : MS) : Prop := PS X st (lS X.K g)
def DSs (X : Cx) (st : List Stmt) (g : MS) : Prop := PSs X st (lS X.K g)
/-- what a later part of the body ends with -/
theorem PostS.before {K : PySem.W.Frag} {O0 : Addr → Prop} {H H1 : Hp} {r r1 : En} {σ σ1 : St} {Dn : Ends} {fl : Fl} (R1 : R K O0 H1 r1 σ1) (k : Kp H r σ H1 r1 σ1) (h : PostS K O0 H r σ Dn fl) : PostS K O0 H1 r1 σ1 Dn fl := by
  have fra : ∀ a, FrA H1 r1 σ1 a → FrA H r σ a := fun a z => by
    rcases z with z | ⟨i, l, e, q⟩
    · exact .inl (k.live a z)
    · rcases k.new a ⟨i, l, by rw [e]; rfl, q⟩ with ⟨j, m, e2, q2⟩ | z
      · cases ej : r[j]? with
        | none => rw [ej] at e2; cases e2
        | some x =>
          rw [ej] at e2
          cases x with
          | un => cases e2
          | v d => cases e2
          | o l' => exact .inr ⟨j, l', ej, q2⟩
          | p l' =>
            obtain ⟨⟨l2, e3⟩, q3⟩ := k.par j l' ej
            have := R1.apart i j a l l2 (by rw [e]; rfl) (by rw [e3]; rfl) q (q3.trans q2)
            subst this
            rw [e] at e3; cases e3
          | z l' =>
            obtain ⟨e3, q3⟩ := k.fz j l' ej
            have := R1.apart i j a l l' (by rw [e]; rfl) (by rw [e3]; rfl) q (q3.trans q2)
            subst this
            rw [e] at e3; cases e3
      · exact .inl z
  cases fl with
  | nx r' => exact fun σ' H' h1 h2 => h σ' H' h1 (k.trans h2)
  | bk r' => exact fun σ' H' h1 h2 => h σ' H' h1 (k.trans h2)
  | ct r' => exact fun σ' H' h1 h2 => h σ' H' h1 (k.trans h2)
  | rt d r' => exact fun v σ' H' h1 h2 h3 => h v σ' H' h1 (k.trans h2) h3
  | rf l r' => exact fun a xs σ' H' h1 h2 h3 h4 h5 h6 => h a xs σ' H' h1 (k.trans h2) (fra a h3) h4 h5 h6
end DD
namespace DD
open PySem PySem.Spec PyProof.Rows L2

/-! ### mirrors of expressions -/
def mC (d : D) : ME := fun _ => some d
def mVar (i : Nat) : ME := fun r => match r[i]? with
  | some (.v d) => some d
  | _ => none
def mOwn (i : Nat) : ML := fun r => (r[i]?).bind Sl.own
def mBin (m : D → D → Option D) (f g : ME) : ME := fun r => (f r).bind fun x => (g r).bind fun y => m x y
def mUn (m : D → Option D) (f : ME) : ME := fun r => (f r).bind m
def mBinT (m : D → D → Option Bool) (f g : ME) : MB := fun r => (f r).bind fun x => (g r).bind fun y => m x y
def mNil : ML := fun _ => some []
def mCons (f : ME) (g : ML) : ML := fun r => (f r).bind fun x => (g r).bind fun l => some (x :: l)
def mTup (f : ML) : ME := fun r => (f r).bind fun l => if l.length ≤ sizeLine then some (.tup l) else none
def mLstF (f : ML) : ML := fun r => (f r).bind fun l => if l.length ≤ sizeLine then some l else none
def mOfF (f : ML) : ME := fun r => (f r).map .lst
def mAsL (f : ME) : ML := fun r => (f r).bind fun d => match d with
  | .lst l => some l
  | _ => none
def mAnd (f g : ME) : ME := fun r => (f r).bind fun d => match d with
  | .bl true => g r
  | .bl false => some (.bl false)
  | _ => none
def mOr (f g : ME) : ME := fun r => (f r).bind fun d => match d with
  | .bl true => some (.bl true)
  | .bl false => g r
  | _ => none
def notD : D → Option D
  | .bl b => some (.bl !b)
  | _ => none
def mAndT (f g : MB) : MB := fun r => (f r).bind fun b => if b = true then g r else some false
def mOrT (f g : MB) : MB := fun r => (f r).bind fun b => if b = true then some true else g r
def mNotT (f : MB) : MB := fun r => (f r).map (!·)
def mIf (c : MB) (f g : ME) : ME := fun r => (c r).bind fun b => if b = true then f r else g r
def blD : D → Option Bool
  | .bl b => some b
  | _ => none
def mBl (f : ME) : MB := fun r => (f r).bind blD
def truD : D → Option Bool
  | .non => some false
  | .bl b => some b
  | .int i => some (i != 0)
  | .str s => if s.length ≤ sizeLine then some (!s.isEmpty) else none
  | .tup l => some (!l.isEmpty)
  | .lst l => some (!l.isEmpty)
  | _ => none
def mTruB (fl : ML) : MB := fun r => (fl r).map fun l => !l.isEmpty
def mTru (f : ME) : MB := fun r => (f r).bind truD

section
variable {X : Cx} {pos : Pos} {a b c : Expr} {f g : ME}

theorem bind_some {α β : Type} {o : Option α} {h : α → Option β} {y : β} (e : o.bind h = some y) : ∃ x, o = some x ∧ h x = some y := by
  cases o with
  | none => cases e
  | some x => exact ⟨x, rfl, e⟩

theorem de_of {t : TE} (h : PE X a t) (i : ∀ O0 σ H r d Q, R X.K O0 H r σ → f r = some d → (∀ v H', Same H H' → Is X.K (Ow O0 r σ) H' d v → Q v H') → t σ H Q) : DE X a f :=
  PE.conseq h fun σ H Q ⟨O0, r, d, hR, e, q⟩ => i O0 σ H r d Q hR e q

/-- names -/
theorem de_var (i : Nat) {x : Str} (h : PE X (.Name x pos) (tVar i)) : DE X (.Name x pos) (mVar i) :=
  de_of h fun O0 σ H r d Q hR e q => by
    unfold mVar at e
    have e' : r[i]? = some (.v d) := by
      split at e
      · rename_i d' h; cases e; exact h
      · cases e
    obtain ⟨v, e1, q1⟩ := hR.val i d e'
    exact ⟨v, e1, q v H (Same.refl H) q1⟩
theorem db_own (i : Nat) {x : Str} (h : PE X (.Name x pos) (tVar i)) : DB X (.Name x pos) (mOwn i) :=
  PE.conseq h fun σ H Q ⟨O0, r, l, hR, e, q⟩ => by
    obtain ⟨a, xs, e1, e2, q1⟩ := hR.own i l e
    exact ⟨.ref a, e1, q a xs H (Same.refl H) (SqL.of e2) q1⟩
/-- constants -/
theorem de_con {v : V} {d : D} (h : PE X a (tC v)) (hd : ∀ O H, Is X.K O H d v) : DE X a (mC d) :=
  de_of h fun O0 σ H r d' Q hR e q => by
    unfold mC at e
    cases e
    exact q v H (Same.refl H) (hd _ _)
theorem de_int {i j} : DE X (.Constant (.int i) j pos) (mC (.int i)) := de_con pe_int fun O H => by unfold Is; rfl
theorem de_bl {i j} : DE X (.Constant (.bool i) j pos) (mC (.bl i)) := de_con pe_bl fun O H => by unfold Is; rfl
theorem de_non {j} : DE X (.Constant .none j pos) (mC .non) := de_con pe_non fun O H => by unfold Is; rfl
theorem de_str {x : Str} {s : List Nat} {j} (e : x.cps.toList = s := by rfl) : DE X (.Constant (.str x) j pos) (mC (.str s)) := de_con pe_str fun O H => by
  unfold Is; subst e; simp

/-- two parts, an operation by values -/
def OpD (K : PySem.W.Frag) (r2 : R2) (m : D → D → Option D) : Prop := ∀ (O : Addr → Prop) (H : Hp) (dx dy d : D) (vx vy : V) (Q : VK), OLst O H → Is K O H dx vx → Is K O H dy vy → m dx dy = some d → (∀ v H', Same H H' → Is K O H' d v → Q v H') → r2 vx vy H Q
theorem two {ta tb : TE} {r2 : R2} {m : D → D → Option D} (hd : OpD X.K r2 m) {σ : St} {H : Hp} {Q : VK} (h : lE X.K (mBin m f g) σ H Q) : tOp r2 (lE X.K f) (lE X.K g) σ H Q := by
  obtain ⟨O0, r, d, hR, e, q⟩ := h
  obtain ⟨x, e1, e⟩ := bind_some e
  obtain ⟨y, e2, e⟩ := bind_some e
  refine ⟨O0, r, x, hR, e1, fun v1 H1 s1 i1 => ⟨O0, r, y, hR.same s1, e2, fun v2 H2 s2 i2 => ?_⟩⟩
  exact hd (Ow O0 r σ) H2 x y d v1 v2 Q (hR.same (s1.trans s2)).ol (i1.same s2 (hR.same s1).ol) i2 e fun v H' s' i' => q v H' ((s1.trans s2).trans s') i'
theorem de_bin {op : Operator} {r2 : R2} {m : D → D → Option D} (ho : OpR X (binaryOp op) r2) (hd : OpD X.K r2 m) (ha : DE X a f) (hb : DE X b g) : DE X (.BinOp a op b pos) (mBin m f g) :=
  PE.conseq (pe_op ho ha hb) fun σ H Q h => two (ta := lE X.K f) (tb := lE X.K g) hd h
theorem de_cmp {op : CmpOp} {r2 : R2} {m : D → D → Option D} (ho : OpR X (compareOp op) r2) (hd : OpD X.K r2 m) (ha : DE X a f) (hb : DE X b g) (hm : behindInMarks op b = false) : DE X (.Compare a [op] [b] pos) (mBin m f g) :=
  PE.conseq (pe_cmpR ho ha hb hm) fun σ H Q h => two (ta := lE X.K f) (tb := lE X.K g) hd h
theorem dt_cmp {op : CmpOp} {r2 : R2} {m : D → D → Option D} (ho : OpR X (compareOp op) r2) (hd : OpD X.K r2 m) (ha : DE X a f) (hb : DE X b g) (hm : behindInMarks op b = false) : DT X (.Compare a [op] [b] pos) (mBl (mBin m f g)) := by
  refine PT.conseq (pt_cmpR ho ha hb hm) fun σ H Q h => ?_
  obtain ⟨O0, r, k, hR, e, q⟩ := h
  obtain ⟨d, e1, e⟩ := bind_some e
  refine two (ta := lE X.K f) (tb := lE X.K g) (m := m) hd ⟨O0, r, d, hR, e1, fun v H' s' i' => ?_⟩
  cases d <;> first | cases e | skip
  rw [Is.bl_iff] at i'
  exact ⟨_, i', q H' s'⟩
theorem de_un {op : UnaryOp} {r1 : V → Hp → VK → Prop} {m : D → Option D} (ho : UnR X (unaryOp op) r1)
    (hd : ∀ (O : Addr → Prop) (H : Hp) (dx d : D) (vx : V) (Q : VK), Is X.K O H dx vx → m dx = some d → (∀ v, Is X.K O H d v → Q v H) → r1 vx H Q) (ha : DE X a f) : DE X (.UnaryOp op a pos) (mUn m f) := by
  refine PE.conseq (pe_un ho ha) fun σ H Q h => ?_
  obtain ⟨O0, r, d, hR, e, q⟩ := h
  obtain ⟨x, e1, e⟩ := bind_some e
  exact ⟨O0, r, x, hR, e1, fun v1 H1 s1 i1 => hd _ H1 x d v1 Q i1 e fun v i => q v H1 s1 i⟩
/-- and, or, not as values -/
theorem de_one {op} (h : DE X a f) : DE X (.BoolOp op [a] pos) f := pe_one h
theorem de_and {rest : List Expr} (ha : DE X a f) (hb : DE X (.BoolOp .And (b :: rest) pos) g) : DE X (.BoolOp .And (a :: b :: rest) pos) (mAnd f g) := by
  refine PE.conseq (pe_and ha hb) fun σ H Q h => ?_
  obtain ⟨O0, r, d, hR, e, q⟩ := h
  obtain ⟨x, e1, e⟩ := bind_some e
  refine ⟨O0, r, x, hR, e1, fun v1 H1 s1 i1 => ?_⟩
  cases x with
  | bl k =>
    rw [Is.bl_iff] at i1
    refine ⟨k, i1, ?_⟩
    cases k with
    | true =>
      rw [if_pos rfl]
      exact ⟨O0, r, d, hR.same s1, e, fun v H' s' i' => q v H' (s1.trans s') i'⟩
    | false =>
      rw [if_neg Bool.false_ne_true]
      cases e
      exact q _ H1 s1 (by rw [Is.bl_iff])
  | _ => cases e
theorem de_or {rest : List Expr} (ha : DE X a f) (hb : DE X (.BoolOp .Or (b :: rest) pos) g) : DE X (.BoolOp .Or (a :: b :: rest) pos) (mOr f g) := by
  refine PE.conseq (pe_or ha hb) fun σ H Q h => ?_
  obtain ⟨O0, r, d, hR, e, q⟩ := h
  obtain ⟨x, e1, e⟩ := bind_some e
  refine ⟨O0, r, x, hR, e1, fun v1 H1 s1 i1 => ?_⟩
  cases x with
  | bl k =>
    rw [Is.bl_iff] at i1
    refine ⟨k, i1, ?_⟩
    cases k with
    | true =>
      rw [if_pos rfl]
      cases e
      exact q _ H1 s1 (by rw [Is.bl_iff])
    | false =>
      rw [if_neg Bool.false_ne_true]
      exact ⟨O0, r, d, hR.same s1, e, fun v H' s' i' => q v H' (s1.trans s') i'⟩
  | _ => cases e
theorem de_not (ha : DE X a f) : DE X (.UnaryOp .Not a pos) (mUn notD f) := by
  refine PE.conseq (pe_not ha) fun σ H Q h => ?_
  obtain ⟨O0, r, d, hR, e, q⟩ := h
  obtain ⟨x, e1, e⟩ := bind_some e
  refine ⟨O0, r, x, hR, e1, fun v1 H1 s1 i1 => ?_⟩
  cases x with
  | bl k =>
    rw [Is.bl_iff] at i1
    cases e
    exact ⟨k, i1, q _ H1 s1 (by rw [Is.bl_iff])⟩
  | _ => cases e
/- tests -/
section
variable {tf tg : MB}
theorem dw_and1 (ha : DT X a tf) : PW X (.BoolOp .And [a] pos) (lT X.K tf) := pw_and1 ha
theorem dw_or1 (ha : DT X a tf) : PW X (.BoolOp .Or [a] pos) (lT X.K tf) := pw_or1 ha
theorem PW.conseq {e : Expr} {t t' : TT} (h : PW X e t) (i : ∀ σ H Q, t' σ H Q → t σ H Q) : PW X e t' := fun wh pins s σ H Q I q => h wh pins s σ H Q I (i σ H Q q)
theorem dw_and {rest : List Expr} (ha : DT X a tf) (hb : PW X (.BoolOp .And (b :: rest) pos) (lT X.K tg)) : PW X (.BoolOp .And (a :: b :: rest) pos) (lT X.K (mAndT tf tg)) := by
  refine PW.conseq (pw_and ha hb) fun σ H Q h => ?_
  obtain ⟨O0, r, d, hR, e, q⟩ := h
  obtain ⟨x, e1, e⟩ := bind_some e
  refine ⟨O0, r, x, hR, e1, fun H1 s1 => ?_⟩
  cases x with
  | true =>
    rw [if_pos rfl]
    exact ⟨O0, r, d, hR.same s1, e, fun H' s' => q H' (s1.trans s')⟩
  | false =>
    rw [if_neg Bool.false_ne_true]
    cases e
    exact q H1 s1
theorem dw_or {rest : List Expr} (ha : DT X a tf) (hb : PW X (.BoolOp .Or (b :: rest) pos) (lT X.K tg)) : PW X (.BoolOp .Or (a :: b :: rest) pos) (lT X.K (mOrT tf tg)) := by
  refine PW.conseq (pw_or ha hb) fun σ H Q h => ?_
  obtain ⟨O0, r, d, hR, e, q⟩ := h
  obtain ⟨x, e1, e⟩ := bind_some e
  refine ⟨O0, r, x, hR, e1, fun H1 s1 => ?_⟩
  cases x with
  | true =>
    rw [if_pos rfl]
    cases e
    exact q H1 s1
  | false =>
    rw [if_neg Bool.false_ne_true]
    exact ⟨O0, r, d, hR.same s1, e, fun H' s' => q H' (s1.trans s')⟩
theorem dt_w (h : PW X a (lT X.K tf)) : DT X a tf := h.pt
theorem dt_not (ha : DT X a tf) : DT X (.UnaryOp .Not a pos) (mNotT tf) := by
  refine PT.conseq (pt_not ha) fun σ H Q h => ?_
  obtain ⟨O0, r, d, hR, e, q⟩ := h
  unfold mNotT at e
  cases e1 : tf r with
  | none => rw [e1] at e; cases e
  | some k =>
    rw [e1] at e; cases e
    exact ⟨O0, r, k, hR, e1, fun H1 s1 => q H1 s1⟩
/-- an expression's truth -/
theorem truD_ok {K : PySem.W.Frag} {O : Addr → Prop} {H : Hp} {d : D} {v : V} {k : Bool} (h : Is K O H d v) (e : truD d = some k) : TruV K v H k := by
  cases d with
  | non => rw [Is.non_iff] at h; subst h; cases e; rfl
  | bl b => rw [Is.bl_iff] at h; subst h; cases e; rfl
  | int i => rw [Is.int_iff] at h; subst h; cases e; rfl
  | str s =>
    rw [Is.str_iff] at h; subst h
    simp only [truD] at e
    split at e
    · rename_i hl
      cases e
      refine ⟨by simpa [Str.length] using hl, ?_⟩
      cases s with
      | nil => rfl
      | cons c r =>
        have : ((r.length : Int) + 1) ≠ 0 := by omega
        simpa [Str.length] using this
    · cases e
  | tup l =>
    rw [Is.tup_iff] at h; obtain ⟨a, xs, rfl, hs, hl⟩ := h; cases e
    refine .inr (.inl ⟨xs, hs, ?_⟩)
    have := hl.length
    cases l <;> cases xs <;> simp_all
  | lst l =>
    rw [Is.lst_iff] at h; obtain ⟨a, xs, rfl, hs, hl⟩ := h; cases e
    refine .inl ⟨xs, hs.sq, ?_⟩
    have := hl.length
    cases l <;> cases xs <;> simp_all
  | ty n => cases e
  | ref a => cases e
theorem dt_tru (ha : DE X a f) (he : ∀ whole, isTrue a X.env whole = (do let v ← whole; standAt a.pos; holding [v] (truthy v)) := by intro _; rfl) : DT X a (mTru f) := by
  refine PT.conseq (pt_truth ha he) fun σ H Q h => ?_
  obtain ⟨O0, r, d, hR, e, q⟩ := h
  obtain ⟨x, e1, e⟩ := bind_some e
  exact ⟨O0, r, x, hR, e1, fun v1 H1 s1 i1 => ⟨d, truD_ok i1 e, q H1 s1⟩⟩
/-- the truth of an owned list -/
theorem dt_truB {fl : ML} (ha : DB X a fl) (he : ∀ whole, isTrue a X.env whole = (do let v ← whole; standAt a.pos; holding [v] (truthy v)) := by intro _; rfl) : DT X a (mTruB fl) := by
  refine PT.conseq (pt_truth ha he) fun σ H Q h => ?_
  obtain ⟨O0, r, d, hR, e, q⟩ := h
  unfold mTruB at e
  cases e1 : fl r with
  | none => rw [e1] at e; cases e
  | some l =>
    rw [e1] at e; cases e
    refine ⟨O0, r, l, hR, e1, fun a xs H1 s1 i1 i2 => ⟨_, .inl ⟨xs, i1, ?_⟩, q H1 s1⟩⟩
    have := i2.length
    cases l <;> cases xs <;> simp_all
theorem de_if (hc : DT X c tf) (ha : DE X a f) (hb : DE X b g) : DE X (.IfExp c a b pos) (mIf tf f g) := by
  refine PE.conseq (pe_ifExp hc ha hb) fun σ H Q h => ?_
  obtain ⟨O0, r, d, hR, e, q⟩ := h
  obtain ⟨x, e1, e⟩ := bind_some e
  refine ⟨O0, r, x, hR, e1, fun H1 s1 => ?_⟩
  cases x with
  | true => rw [if_pos rfl]; exact ⟨O0, r, d, hR.same s1, e, fun v H' s' i' => q v H' (s1.trans s') i'⟩
  | false => rw [if_neg Bool.false_ne_true]; exact ⟨O0, r, d, hR.same s1, e, fun v H' s' i' => q v H' (s1.trans s') i'⟩
end
/-! ### argument lists, displays -/
section
variable {es : List Expr} {fs : ML}
theorem da_nil : DA X [] mNil := PA.conseq pa_nil fun σ H Q ⟨O0, r, l, hR, e, q⟩ => by
  unfold mNil at e; cases e
  exact q [] H (Same.refl H) .nil
theorem da_cons (ha : DE X a f) (hr : DA X es fs) (hs : starEach (a :: es) X.env = (false, eval a X.env) :: starEach es X.env := by rfl) : DA X (a :: es) (mCons f fs) := by
  refine PA.conseq (pa_cons ha hr hs) fun σ H Q h => ?_
  obtain ⟨O0, r, d, hR, e, q⟩ := h
  obtain ⟨x, e1, e⟩ := bind_some e
  obtain ⟨l, e2, e⟩ := bind_some e
  cases e
  exact ⟨O0, r, x, hR, e1, fun v1 H1 s1 i1 => ⟨O0, r, l, hR.same s1, e2, fun vs H2 s2 i2 => q _ H2 (s1.trans s2) (.cons (i1.same s2 (hR.same s1).ol) i2)⟩⟩
theorem same_upd {H : Hp} {p : Addr} {o : HO} (n : H p = none) : Same H (upd H p o) := fun b u e => by rw [upd_ne (ne_of_none e n)]; exact e
theorem de_tup {x1} (h : DA X es fs) : DE X (.Tuple es x1 pos) (mTup fs) := by
  refine PE.conseq (pe_tup h) fun σ H Q h => ?_
  obtain ⟨O0, r, d, hR, e, q⟩ := h
  obtain ⟨l, e1, e⟩ := bind_some e
  split at e
  · rename_i hl
    cases e
    refine ⟨O0, r, l, hR, e1, fun vs H1 s1 i1 => ⟨by rw [← i1.length]; exact hl, fun p hp => q _ _ (s1.trans (same_upd hp)) ?_⟩⟩
    rw [Is.tup_iff]
    exact ⟨p, vs, rfl, SqT.of upd_same, i1.same (same_upd hp) (hR.same s1).ol⟩
  · cases e
theorem df_lst (h : DA X es fs) : DF X (.List es pos) (mLstF fs) := by
  refine PE.conseq (pe_lst h) fun σ H Q h => ?_
  obtain ⟨O0, r, l', hR, e, q⟩ := h
  obtain ⟨l, e1, e⟩ := bind_some e
  split at e
  · rename_i hl
    have e' : l = l' := Option.some.inj e
    subst e'
    refine ⟨O0, r, l, hR, e1, fun vs H1 s1 i1 => ⟨by rw [← i1.length]; exact hl, fun p hp => q _ _ _ (s1.trans (same_upd hp)) (s1.free hp) upd_same ?_⟩⟩
    refine IsL.mono (Same.kp (same_upd hp) _) (hR.same s1).ol (fun a z n => ?_) _ vs i1
    rcases z with z | z
    · exact z
    · subst z; exact absurd hp n
  · cases e
/-- a new list as a value -/
theorem de_f {fl : ML} (h : DF X a fl) : DE X a (mOfF fl) := by
  refine PE.conseq h fun σ H Q h => ?_
  obtain ⟨O0, r, d, hR, e, q⟩ := h
  unfold mOfF at e
  cases e1 : fl r with
  | none => rw [e1] at e; cases e
  | some l =>
    rw [e1] at e; cases e
    refine ⟨O0, r, l, hR, e1, fun p xs H1 s1 n1 e2 i1 => q _ H1 s1 ?_⟩
    rw [Is.lst_iff]
    have ol : OLst (fun b => Ow O0 r σ b ∨ b = p) H1 := fun b z => z.elim (fun z => (hR.same s1).ol b z) fun z => by subst z; exact ⟨xs, e2⟩
    exact ⟨p, xs, rfl, .inl ⟨hR.nofresh n1, .inl e2⟩, IsL.mono (Same.kp (Same.refl H1) _) ol (fun a z _ => .inl z) l xs i1⟩
theorem db_e (h : DE X a f) : DB X a (mAsL f) := by
  refine PE.conseq h fun σ H Q h => ?_
  obtain ⟨O0, r, l, hR, e, q⟩ := h
  obtain ⟨d, e1, e⟩ := bind_some e
  refine ⟨O0, r, d, hR, e1, fun v H1 s1 i1 => ?_⟩
  cases d with
  | lst l' =>
    cases e
    rw [Is.lst_iff] at i1
    obtain ⟨p, xs, rfl, rd, il⟩ := i1
    exact q p xs H1 s1 rd.sq il
  | _ => cases e
end
end
end DD
namespace DD
open PySem PySem.Spec PyProof.Rows L2

/-! ### mirrors of statements -/
def sSkip : MS := fun r => some (.nx r)
def sSeq (g h : MS) : MS := fun r => (g r).bind fun fl => match fl with
  | .nx r' => h r'
  | x => some x
def setV (i : Nat) (d : D) (r : En) : Option En := match r[i]? with
  | some (.p _) => none
  | some (.z _) => none
  | some _ => some (r.set i (.v d))
  | none => none
def setO (i : Nat) (l : List D) (r : En) : Option En := match r[i]? with
  | some (.p _) => none
  | some (.z _) => none
  | some _ => some (r.set i (.o l))
  | none => none
def sSet (i : Nat) (f : ME) : MS := fun r => (f r).bind fun d => (setV i d r).map .nx
def sOwn (i : Nat) (f : ML) : MS := fun r => (f r).bind fun l => (setO i l r).map .nx
def sRet (f : ME) : MS := fun r => (f r).map fun d => .rt d r
def sRetF (f : ML) : MS := fun r => (f r).map fun l => .rf l r
def sRetOwn (i : Nat) : MS := fun r => match r[i]? with
  | some (.o l) => some (.rf l r)
  | _ => none
def sRetN : MS := fun r => some (.rt .non r)
def sIf (c : MB) (g h : MS) : MS := fun r => (c r).bind fun b => if b = true then g r else h r
def sExpr (f : ME) : MS := fun r => (f r).map fun _ => .nx r
def sX (f : En → Option (D × En)) : MS := fun r => (f r).map fun p => .nx p.2
def sSetX (i : Nat) (f : En → Option (D × En)) : MS := fun r => (f r).bind fun p => (setV i p.1 p.2).map .nx
def sRetX (f : En → Option (D × En)) : MS := fun r => (f r).map fun p => .rt p.1 p.2
def sWhile : Nat → MB → MS → MS
  | 0, _, _ => fun _ => none
  | n + 1, c, g => fun r => (c r).bind fun b => if b = true then (g r).bind fun fl => match fl with
      | .nx r' => sWhile n c g r'
      | .ct r' => sWhile n c g r'
      | .bk r' => some (.nx r')
      | x => some x
    else some (.nx r)
def forL (bd : D → En → Option En) (g : MS) : List D → MS
  | [], r => some (.nx r)
  | d :: l, r => (bd d r).bind fun r1 => (g r1).bind fun fl => match fl with
      | .nx r' => forL bd g l r'
      | .ct r' => forL bd g l r'
      | .bk r' => some (.nx r')
      | x => some x
def sFor (bd : D → En → Option En) (it : ML) (g : MS) : MS := fun r => (it r).bind fun l => forL bd g l r

theorem get_set_ne {α : Type} {l : List α} {i j : Nat} {x : α} (h : i ≠ j) : (l.set i x)[j]? = l[j]? := by rw [List.getElem?_set]; simp [h]
theorem get_set_eq {α : Type} {l : List α} {i : Nat} {x : α} (h : i < l.length) : (l.set i x)[i]? = some x := by rw [List.getElem?_set]; simp [h]

section
variable {K : PySem.W.Frag} {O0 : Addr → Prop} {H H1 : Hp} {r : En} {σ : St} {i : Nat} {d : D} {v : V}
theorem own_setv {q : Sl → Option (List D)} (hq : ∀ d, q (.v d) = none) {a : Addr} {x : Option V} (h : AtS q (r.set i (.v d)) (σ.set i x) a) : AtS q r σ a := by
  obtain ⟨j, l, e, q'⟩ := h
  by_cases hj : i = j
  · subst hj
    by_cases hl : i < r.length
    · rw [get_set_eq hl] at e
      have e' : q (.v d) = some l := e
      rw [hq] at e'; cases e'
    · rw [List.getElem?_eq_none (by simpa using hl)] at e; cases e
  · rw [get_set_ne hj] at e q'
    exact ⟨j, l, e, q'⟩
theorem R.setv (h : R K O0 H r σ) (hi : i < r.length) (np : ∀ l, r[i]? ≠ some (.p l) ∧ r[i]? ≠ some (.z l)) (hv : Is K (Ow O0 r σ) H d v) : R K O0 H (r.set i (.v d)) (σ.set i (some v)) ∧ Kp H r σ H (r.set i (.v d)) (σ.set i (some v)) := by
  have his : i < σ.length := by rw [← h.len]; exact hi
  have sub : ∀ a, Ow O0 (r.set i (.v d)) (σ.set i (some v)) a → H a ≠ none → Ow O0 r σ a := fun a z _ => z.elim .inl fun z => .inr (own_setv (fun _ => rfl) z)
  have ne : ∀ (j : Nat) (l : List D), ((r.set i (.v d))[j]?).bind Sl.own = some l → i ≠ j := fun j l e z => by subst z; rw [get_set_eq hi] at e; cases e
  refine ⟨⟨by simp [h.len], fun j d' e => ?_, fun j l e => ?_, fun j k a l m e1 e2 q1 q2 => ?_, h.o0, fun j l a e q => ?_, fun j l a e q => ?_⟩, ⟨fun b o e _ => e, fun b e => e, fun b xs e => ⟨xs, e⟩, fun b z => .inl (own_setv (fun _ => rfl) z), fun b z => .inl (own_setv (fun _ => rfl) z), fun j l e => ?_, fun j l e => ?_⟩⟩
  · by_cases hj : i = j
    · subst hj
      rw [get_set_eq hi] at e; cases e
      exact ⟨v, get_set_eq his, Is.mono (Same.kp (Same.refl H) _) h.ol sub _ _ hv⟩
    · rw [get_set_ne hj] at e
      obtain ⟨u, e1, q⟩ := h.val j d' e
      exact ⟨u, by rw [get_set_ne hj]; exact e1, Is.mono (Same.kp (Same.refl H) _) h.ol sub _ _ q⟩
  · have hj := ne j l e
    rw [get_set_ne hj] at e
    obtain ⟨a, xs, e1, e2, q⟩ := h.own j l e
    exact ⟨a, xs, by rw [get_set_ne hj]; exact e1, e2, IsL.mono (Same.kp (Same.refl H) _) h.ol sub _ _ q⟩
  · have hj := ne j l e1
    have hk := ne k m e2
    rw [get_set_ne hj] at e1 q1
    rw [get_set_ne hk] at e2 q2
    exact h.apart j k a l m e1 e2 q1 q2
  · have hj : i ≠ j := ne j l (by rcases e with e | e <;> rw [e] <;> rfl)
    rw [get_set_ne hj] at e q
    exact h.loc j l a e q
  · have hj : i ≠ j := ne j l (by rw [e]; rfl)
    rw [get_set_ne hj] at e q
    exact h.par j l a e q
  · have hj : i ≠ j := fun z => by subst z; exact (np l).1 e
    exact ⟨⟨l, by rw [get_set_ne hj]; exact e⟩, get_set_ne hj⟩
  · have hj : i ≠ j := fun z => by subst z; exact (np l).2 e
    exact ⟨by rw [get_set_ne hj]; exact e, get_set_ne hj⟩
/-- a new list becomes the frame's own -/
theorem R.seto {l : List D} {xs : List V} {p : Addr} (h : R K O0 H r σ) (s : Same H H1) (n : H p = none) (e : H1 p = some (.lst xs)) (hl : IsL K (fun b => Ow O0 r σ b ∨ b = p) H1 l xs) (hi : i < r.length) (np : ∀ l, r[i]? ≠ some (.p l) ∧ r[i]? ≠ some (.z l)) :
    R K O0 H1 (r.set i (.o l)) (σ.set i (some (.ref p))) ∧ Kp H r σ H1 (r.set i (.o l)) (σ.set i (some (.ref p))) := by
  have his : i < σ.length := by rw [← h.len]; exact hi
  have ow : ∀ {q : Sl → Option (List D)} a, AtS q (r.set i (.o l)) (σ.set i (some (.ref p))) a → AtS q r σ a ∨ a = p := fun {q} a z => by
    obtain ⟨j, m, e1, q1⟩ := z
    by_cases hj : i = j
    · subst hj
      rw [get_set_eq his] at q1; cases q1; exact .inr rfl
    · rw [get_set_ne hj] at e1 q1
      exact .inl ⟨j, m, e1, q1⟩
  have sub : ∀ a, Ow O0 (r.set i (.o l)) (σ.set i (some (.ref p))) a → H a ≠ none → Ow O0 r σ a := fun a z nn => z.elim .inl fun z => (ow a z).elim .inr fun z => by subst z; exact absurd n nn
  have olp : OLst (fun b => Ow O0 r σ b ∨ b = p) H1 := fun b z => z.elim (fun z => (h.same s).ol b z) fun z => by subst z; exact ⟨xs, e⟩
  refine ⟨⟨by simp [h.len], fun j d' e1 => ?_, fun j m e1 => ?_, fun j k a l1 m e1 e2 q1 q2 => ?_, (h.same s).o0, fun j m a e1 q => ?_, fun j m a e1 q => ?_⟩, ⟨fun b o e1 _ => s b o e1, fun b e1 => s.free e1, fun b ys e1 => ⟨ys, s _ _ e1⟩, fun b z => (ow b z).imp id fun z => by subst z; exact n, fun b z => (ow b z).imp id fun z => by subst z; exact n, fun j m e1 => ?_, fun j m e1 => ?_⟩⟩
  · have hj : i ≠ j := fun z => by subst z; rw [get_set_eq hi] at e1; cases e1
    rw [get_set_ne hj] at e1
    obtain ⟨u, e2, q⟩ := h.val j d' e1
    exact ⟨u, by rw [get_set_ne hj]; exact e2, Is.mono (Same.kp s _) h.ol sub _ _ q⟩
  · by_cases hj : i = j
    · subst hj
      rw [get_set_eq hi] at e1; cases e1
      refine ⟨p, xs, get_set_eq his, e, IsL.mono (Same.kp (Same.refl H1) _) olp (fun a z _ => z.elim (fun z => .inl (.inl z)) fun z => (ow a z).imp .inr id) _ _ hl⟩
    · rw [get_set_ne hj] at e1
      obtain ⟨a, ys, e2, e3, q⟩ := h.own j m e1
      exact ⟨a, ys, by rw [get_set_ne hj]; exact e2, s _ _ e3, IsL.mono (Same.kp s _) h.ol sub _ _ q⟩
  · have out : ∀ (j : Nat) (m : List D) (a : Addr), i ≠ j → ((r.set i (.o l))[j]?).bind Sl.own = some m → (σ.set i (some (.ref p)))[j]? = some (some (.ref a)) → a ≠ p := fun j m a hj e1 q1 z => by
      rw [get_set_ne hj] at e1 q1
      obtain ⟨b, ys, e2, e3, _⟩ := h.own j m e1
      rw [q1] at e2; cases e2
      subst z
      rw [n] at e3; cases e3
    by_cases hj : i = j
    · by_cases hk : i = k
      · exact hj.symm.trans hk
      · subst hj
        rw [get_set_eq his] at q1; cases q1
        exact absurd rfl (out k m p hk e2 q2)
    · by_cases hk : i = k
      · subst hk
        rw [get_set_eq his] at q2; cases q2
        exact absurd rfl (out j l1 p hj e1 q1)
      · rw [get_set_ne hj] at e1 q1
        rw [get_set_ne hk] at e2 q2
        exact h.apart j k a l1 m e1 e2 q1 q2
  · by_cases hj : i = j
    · subst hj
      rw [get_set_eq his] at q; cases q
      exact fun z => by obtain ⟨ys, e3⟩ := h.o0 p z; rw [n] at e3; cases e3
    · rw [get_set_ne hj] at e1 q
      exact h.loc j m a e1 q
  · have hj : i ≠ j := fun z => by subst z; rw [get_set_eq hi] at e1; cases e1
    rw [get_set_ne hj] at e1 q
    exact h.par j m a e1 q
  · have hj : i ≠ j := fun z => by subst z; exact (np m).1 e1
    exact ⟨⟨m, by rw [get_set_ne hj]; exact e1⟩, get_set_ne hj⟩
  · have hj : i ≠ j := fun z => by subst z; exact (np m).2 e1
    exact ⟨by rw [get_set_ne hj]; exact e1, get_set_ne hj⟩
theorem setV_some {r' : En} (e : setV i d r = some r') : i < r.length ∧ (∀ l, r[i]? ≠ some (.p l) ∧ r[i]? ≠ some (.z l)) ∧ r' = r.set i (.v d) := by
  unfold setV at e
  cases e1 : r[i]? with
  | none => rw [e1] at e; cases e
  | some x =>
    have hi : i < r.length := (List.getElem?_eq_some_iff.mp e1).1
    rw [e1] at e
    cases x with
    | p l => cases e
    | z l => cases e
    | _ => cases e; exact ⟨hi, fun l => ⟨(fun z => by cases z), (fun z => by cases z)⟩, rfl⟩
theorem setO_some {r' : En} {l : List D} (e : setO i l r = some r') : i < r.length ∧ (∀ l, r[i]? ≠ some (.p l) ∧ r[i]? ≠ some (.z l)) ∧ r' = r.set i (.o l) := by
  unfold setO at e
  cases e1 : r[i]? with
  | none => rw [e1] at e; cases e
  | some x =>
    have hi : i < r.length := (List.getElem?_eq_some_iff.mp e1).1
    rw [e1] at e
    cases x with
    | p l => cases e
    | z l => cases e
    | _ => cases e; exact ⟨hi, fun l => ⟨(fun z => by cases z), (fun z => by cases z)⟩, rfl⟩
theorem map_some {α β : Type} {o : Option α} {h : α → β} {y : β} (e : o.map h = some y) : ∃ x, o = some x ∧ h x = y := by
  cases o with
  | none => cases e
  | some x => exact ⟨x, rfl, Option.some.inj e⟩
theorem Is.less {O : Addr → Prop} (h : R K O0 H r σ) (hi : Is K (Ow O0 r σ) H1 d v) (s : Same H H1) : Is K O0 H1 d v := Is.mono (Same.kp (Same.refl H1) _) (h.same s).ol (fun _ z _ => .inl z) _ _ hi
end

section
variable {X : Cx} {pos : Pos} {e : Expr} {f : ME} {fl : ML} {g h : MS} {st : Stmt} {rest : List Stmt}

theorem ds_nil : DSs X [] sSkip := PSs.conseq pss_nil fun Dn σ H ⟨O0, r, f', hR, e, q⟩ => by
  unfold sSkip at e; cases e
  exact q σ H hR (Kp.refl H r σ)
theorem ds_pass : DS X (.Pass pos) sSkip := PS.conseq ps_pass fun Dn σ H ⟨O0, r, f', hR, e, q⟩ => by
  unfold sSkip at e; cases e
  exact q σ H hR (Kp.refl H r σ)
theorem ds_cons (h1 : DS X st g) (h2 : DSs X rest h) : DSs X (st :: rest) (sSeq g h) := by
  refine PSs.conseq (pss_cons h1 h2) fun Dn σ H hq => ?_
  obtain ⟨O0, r, fl, hR, e, q⟩ := hq
  obtain ⟨f1, e1, e2⟩ := bind_some e
  cases f1 with
  | nx r1 => exact ⟨O0, r, .nx r1, hR, e1, fun σ' H' R' k => ⟨O0, r1, fl, R', e2, q.before R' k⟩⟩
  | bk r1 => cases e2; exact ⟨O0, r, _, hR, e1, q⟩
  | ct r1 => cases e2; exact ⟨O0, r, _, hR, e1, q⟩
  | rt d r1 => cases e2; exact ⟨O0, r, _, hR, e1, q⟩
  | rf l r1 => cases e2; exact ⟨O0, r, _, hR, e1, q⟩
theorem ds_one (h1 : DS X st g) : DSs X [st] g := pss_one h1
theorem ds_set (i : Nat) {x : Str} {pos' : Pos} (he : DE X e f) (hN : X.N.Nodup) (hi : X.N[i]? = some x := by rfl) (hx : Loc X.env.scope x := by first | exact Or.inl rfl | exact Or.inr rfl) (hs : swapsWith e (some (.Name x pos')) pos.line X.env = pure false := by rfl) (hf : X.fn x = true ∨ X.env.scope.names.lookup x = some .local := by first | exact .inl rfl | exact .inr rfl) :
    DS X (.Assign [.Name x pos'] e pos) (sSet i f) := by
  refine PS.conseq (ps_set hN hi hx he hs hf) fun Dn σ H hq => ?_
  obtain ⟨O0, r, fl, hR, e, q⟩ := hq
  obtain ⟨d, e1, e2⟩ := bind_some e
  obtain ⟨r', e3, rfl⟩ := map_some e2
  obtain ⟨hl, np, rfl⟩ := setV_some e3
  refine ⟨O0, r, d, hR, e1, fun v H1 s1 i1 => ?_⟩
  obtain ⟨R1, k1⟩ := (hR.same s1).setv hl np i1
  exact q _ H1 R1 ((Kp.of_same r σ s1).trans k1)
theorem ds_own (i : Nat) {x : Str} {pos' : Pos} (he : DF X e fl) (hN : X.N.Nodup) (hi : X.N[i]? = some x := by rfl) (hx : Loc X.env.scope x := by first | exact Or.inl rfl | exact Or.inr rfl) (hs : swapsWith e (some (.Name x pos')) pos.line X.env = pure false := by rfl) (hf : X.fn x = true ∨ X.env.scope.names.lookup x = some .local := by first | exact .inl rfl | exact .inr rfl) :
    DS X (.Assign [.Name x pos'] e pos) (sOwn i fl) := by
  refine PS.conseq (ps_set hN hi hx he hs hf) fun Dn σ H hq => ?_
  obtain ⟨O0, r, fl', hR, e, q⟩ := hq
  obtain ⟨l, e1, e2⟩ := bind_some e
  obtain ⟨r', e4, rfl⟩ := map_some e2
  obtain ⟨hl, np, rfl⟩ := setO_some e4
  refine ⟨O0, r, l, hR, e1, fun p xs H1 s1 n1 e3 i1 => ?_⟩
  obtain ⟨R1, k1⟩ := hR.seto s1 n1 e3 i1 hl np
  exact q _ H1 R1 k1
theorem ds_ret (he : DE X e f) : DS X (.Return (some e) pos) (sRet f) := by
  refine PS.conseq (ps_ret he) fun Dn σ H hq => ?_
  obtain ⟨O0, r, fl, hR, e, q⟩ := hq
  obtain ⟨d, e1, rfl⟩ := map_some e
  exact ⟨O0, r, d, hR, e1, fun v H1 s1 i1 => q v σ H1 (hR.same s1) (Kp.of_same r σ s1) (Is.less (O := O0) hR i1 s1)⟩
theorem ds_retF (he : DF X e fl) : DS X (.Return (some e) pos) (sRetF fl) := by
  refine PS.conseq (ps_ret he) fun Dn σ H hq => ?_
  obtain ⟨O0, r, fl', hR, e, q⟩ := hq
  obtain ⟨l, e1, rfl⟩ := map_some e
  refine ⟨O0, r, l, hR, e1, fun p xs H1 s1 n1 e3 i1 => q p xs σ H1 (hR.same s1) (Kp.of_same r σ s1) (.inl n1) (fun z => hR.nofresh n1 (.inl z)) e3 ?_⟩
  have olp : OLst (fun b => Ow O0 r σ b ∨ b = p) H1 := fun b z => z.elim (fun z => (hR.same s1).ol b z) fun z => by subst z; exact ⟨xs, e3⟩
  exact IsL.mono (Same.kp (Same.refl H1) _) olp (fun a z _ => z.imp .inl id) _ _ i1
theorem ds_retOwn (i : Nat) {x : Str} {pos' : Pos} (h : PE X (.Name x pos') (tVar i)) : DS X (.Return (some (.Name x pos')) pos) (sRetOwn i) := by
  refine PS.conseq (ps_ret h) fun Dn σ H hq => ?_
  obtain ⟨O0, r, fl', hR, e, q⟩ := hq
  unfold sRetOwn at e
  have ⟨l, e1, e2⟩ : ∃ l, r[i]? = some (.o l) ∧ fl' = .rf l r := by
    split at e
    · rename_i l h; cases e; exact ⟨l, h, rfl⟩
    · cases e
  subst e2
  obtain ⟨a, xs, q1, q2, q3⟩ := hR.own i l (by rw [e1]; rfl)
  refine ⟨.ref a, q1, q a xs σ H hR (Kp.refl H r σ) (.inr ⟨i, l, e1, q1⟩) (hR.loc i l a (.inl e1) q1) q2 ?_⟩
  exact IsL.mono (Same.kp (Same.refl H) _) hR.ol (fun b z _ => z.elim .inl fun z => by subst z; exact .inr ⟨i, l, by rw [e1]; rfl, q1⟩) _ _ q3
theorem ds_retN : DS X (.Return none pos) sRetN := by
  refine PS.conseq ps_retN fun Dn σ H hq => ?_
  obtain ⟨O0, r, fl', hR, e, q⟩ := hq
  unfold sRetN at e; cases e
  exact q .non σ H hR (Kp.refl H r σ) (by rw [Is.non_iff])
theorem ds_if {c : Expr} {sa sb : List Stmt} {tc : MB} (hc : DT X c tc) (ha : DSs X sa g) (hb : DSs X sb h) : DS X (.If c sa sb pos) (sIf tc g h) := by
  refine PS.conseq (ps_if hc ha hb) fun Dn σ H hq => ?_
  obtain ⟨O0, r, fl', hR, e, q⟩ := hq
  obtain ⟨k, e1, e2⟩ := bind_some e
  refine ⟨O0, r, k, hR, e1, fun H1 s1 => ?_⟩
  have R1 := hR.same s1
  have q1 := PostS.before R1 (Kp.of_same r σ s1) q
  cases k with
  | true => rw [if_pos rfl] at e2; exact iteT ⟨O0, r, fl', R1, e2, q1⟩
  | false => rw [if_neg Bool.false_ne_true] at e2; exact iteF ⟨O0, r, fl', R1, e2, q1⟩
theorem ds_expr (he : DE X e f) (hs : swapsWith e none pos.line X.env = pure false := by rfl) : DS X (.Expr e pos) (sExpr f) := by
  refine PS.conseq (ps_expr he hs) fun Dn σ H hq => ?_
  obtain ⟨O0, r, fl', hR, e, q⟩ := hq
  obtain ⟨d, e1, rfl⟩ := map_some e
  exact ⟨O0, r, d, hR, e1, fun v H1 s1 i1 => q σ H1 (hR.same s1) (Kp.of_same r σ s1)⟩
theorem ds_x {fx : En → Option (D × En)} (he : DX X e fx) (hs : swapsWith e none pos.line X.env = pure false := by rfl) : DS X (.Expr e pos) (sX fx) := by
  refine PS.conseq (ps_expr he hs) fun Dn σ H hq => ?_
  obtain ⟨O0, r, fl', hR, e, q⟩ := hq
  obtain ⟨⟨d, r'⟩, e1, rfl⟩ := map_some e
  exact ⟨O0, r, d, r', hR, e1, fun v H1 R1 k1 i1 => q σ H1 R1 k1⟩
theorem ds_setX (i : Nat) {x : Str} {pos' : Pos} {fx : En → Option (D × En)} (he : DX X e fx) (hN : X.N.Nodup) (hi : X.N[i]? = some x := by rfl) (hx : Loc X.env.scope x := by first | exact Or.inl rfl | exact Or.inr rfl) (hs : swapsWith e (some (.Name x pos')) pos.line X.env = pure false := by rfl) (hf : X.fn x = true ∨ X.env.scope.names.lookup x = some .local := by first | exact .inl rfl | exact .inr rfl) :
    DS X (.Assign [.Name x pos'] e pos) (sSetX i fx) := by
  refine PS.conseq (ps_set hN hi hx he hs hf) fun Dn σ H hq => ?_
  obtain ⟨O0, r, fl, hR, e, q⟩ := hq
  obtain ⟨⟨d, r1⟩, e1, e2⟩ := bind_some e
  obtain ⟨r', e3, rfl⟩ := map_some e2
  obtain ⟨hl, np, rfl⟩ := setV_some e3
  refine ⟨O0, r, d, r1, hR, e1, fun v H1 R1 k1 i1 => ?_⟩
  obtain ⟨R2, k2⟩ := R1.setv hl np i1
  exact q _ H1 R2 (k1.trans k2)
theorem ds_retX {fx : En → Option (D × En)} (he : DX X e fx) : DS X (.Return (some e) pos) (sRetX fx) := by
  refine PS.conseq (ps_ret he) fun Dn σ H hq => ?_
  obtain ⟨O0, r, fl, hR, e, q⟩ := hq
  obtain ⟨⟨d, r1⟩, e1, rfl⟩ := map_some e
  exact ⟨O0, r, d, r1, hR, e1, fun v H1 R1 k1 i1 => q v σ H1 R1 k1 (Is.less (O := O0) R1 i1 (Same.refl H1))⟩
theorem ds_while (n : Nat) {c : Expr} {body : List Stmt} {tc : MB} (hp : PassesOwn (model X.prog X.w) X.A X.env X.xe) (hc : DT X c tc) (hb : DSs X body g) : DS X (.While c body [] pos) (sWhile n tc g) := by
  refine PS.conseq (ps_while hp hc hb) fun Dn σ H hq => ?_
  obtain ⟨O0, r, fl, hR, e, q⟩ := hq
  refine ⟨fun m σ1 H1 => ∃ r1, R X.K O0 H1 r1 σ1 ∧ Kp H r σ H1 r1 σ1 ∧ sWhile m tc g r1 = some fl, ⟨n, r, hR, Kp.refl H r σ, e⟩, ?_⟩
  rintro m σ1 H1 ⟨r1, R1, k1, e1⟩
  cases m with
  | zero => cases e1
  | succ m =>
    obtain ⟨b, e2, e3⟩ := bind_some e1
    refine ⟨O0, r1, b, R1, e2, fun H2 s2 => ?_⟩
    have R2 := R1.same s2
    have k2 := k1.trans (Kp.of_same r1 σ1 s2)
    cases b with
    | false =>
      rw [if_neg Bool.false_ne_true] at e3
      cases e3
      exact iteF (q σ1 H2 R2 k2)
    | true =>
      rw [if_pos rfl] at e3
      obtain ⟨f1, e4, e5⟩ := bind_some e3
      refine iteT ⟨fun σ3 H3 => ∃ r3, R X.K O0 H3 r3 σ3 ∧ Kp H r σ H3 r3 σ3 ∧ sWhile m tc g r3 = some fl, fun σ3 H3 z => ⟨m, Nat.lt_succ_self m, z⟩, O0, r1, f1, R2, e4, ?_⟩
      cases f1 with
      | nx r3 => exact fun σ3 H3 R3 k3 => ⟨r3, R3, k2.trans k3, e5⟩
      | ct r3 => exact fun σ3 H3 R3 k3 => ⟨r3, R3, k2.trans k3, e5⟩
      | bk r3 => cases e5; exact fun σ3 H3 R3 k3 => q σ3 H3 R3 (k2.trans k3)
      | rt d r3 => cases e5; exact PostS.before R2 k2 q
      | rf l r3 => cases e5; exact PostS.before R2 k2 q
end

/-! ### targets and for -/
def lG (K : PySem.W.Frag) (bd : D → En → Option En) : TG := fun v σ H Q => ∃ O0 r d r', R K O0 H r σ ∧ Is K (Ow O0 r σ) H d v ∧ bd d r = some r' ∧ ∀ σ', R K O0 H r' σ' → Kp H r σ H r' σ' → Q σ' H
def DG (X : Cx) (tg : Expr) (bd : D → En → Option En) : Prop := PG X tg (lG X.K bd)
def Ylds (K : PySem.W.Frag) (O M : Addr → Prop) (H0 : Hp) (J : It) (l : List D) : Prop := ∀ (i : Nat) (H : Hp) (O' : Addr → Prop), Keep M H0 H → (∀ a, O' a → H0 a ≠ none → O a) →
  (i < l.length → J.go i H ∧ ∀ x H', J.yld i H x H' → Same H H' ∧ ∀ d, l[i]? = some d → Is K O' H' d x) ∧ (i = l.length → J.stop i H)
def lI (K : PySem.W.Frag) (it : ML) : TI := fun σ H Rr => ∃ O0 r l, R K O0 H r σ ∧ it r = some l ∧ ∀ J H', Same H H' → Ylds K (Ow O0 r σ) (MutAt r σ) H' J l → Rr J H'
def DI (X : Cx) (tg iter : Expr) (it : ML) : Prop := PI X tg iter (lI X.K it)
theorem PG.conseq {X : Cx} {e : Expr} {t t' : TG} (h : PG X e t) (i : ∀ v σ H Q, t' v σ H Q → t v σ H Q) : PG X e t' := fun pins s σ H v u Q I r q => h pins s σ H v u Q I r (i v σ H Q q)
theorem PI.conseq {X : Cx} {tg e : Expr} {t t' : TI} (h : PI X tg e t) (i : ∀ σ H Q, t' σ H Q → t σ H Q) : PI X tg e t' := fun pins s σ H Q I q => h pins s σ H Q I (i σ H Q q)

theorem drop_cons {α : Type} {l : List α} {i : Nat} {d : α} (h : l[i]? = some d) : l.drop i = d :: l.drop (i + 1) := by
  obtain ⟨lt, eq⟩ := List.getElem?_eq_some_iff.mp h
  rw [← eq, List.drop_eq_getElem_cons lt]

section
variable {X : Cx} {pos : Pos} {tg iter : Expr} {bd : D → En → Option En} {it : ML} {g : MS} {body : List Stmt}
theorem ds_for (hp : PassesOwn (model X.prog X.w) X.A X.env X.xe) (hc : X.calm = true) (hi : DI X tg iter it) (hg : DG X tg bd) (hb : DSs X body g) (hs : ∀ x, foldedSetIterable iter X.env x = pure x := by intro _; rfl) :
    DS X (.For tg iter body [] pos) (sFor bd it g) := by
  refine PS.conseq (ps_for hp hc hi hg hb hs) fun Dn σ H hq => ?_
  obtain ⟨O0, r, fl, hR, e, q⟩ := hq
  obtain ⟨l, e1, e2⟩ := bind_some e
  refine ⟨O0, r, l, hR, e1, fun J H0 s0 yl => ?_⟩
  have R0 := hR.same s0
  refine ⟨fun i m σ1 H1 => m = l.length - i ∧ i ≤ l.length ∧ ∃ r1, R X.K O0 H1 r1 σ1 ∧ Kp H0 r σ H1 r1 σ1 ∧ forL bd g (l.drop i) r1 = some fl, ⟨l.length, by simp, Nat.zero_le _, r, R0, Kp.refl H0 r σ, by simpa using e2⟩, ?_⟩
  rintro i m σ1 H1 ⟨rfl, hil, r1, R1, k1, e3⟩
  have k0 := (Kp.of_same r σ s0).trans k1
  obtain ⟨y1, y2⟩ := yl i H1 (Ow O0 r1 σ1) k1.keep fun a z n => z.elim .inl fun z => (k1.new a z).elim .inr fun z => absurd z n
  by_cases hlt : i < l.length
  · obtain ⟨go, yd⟩ := y1 hlt
    have hd : l[i]? = some l[i] := by simp [hlt]
    rw [drop_cons hd] at e3
    obtain ⟨r2, e4, e5⟩ := bind_some e3
    obtain ⟨f1, e6, e7⟩ := bind_some e5
    refine .inr ⟨go, fun σ3 H3 => ∃ r3, R X.K O0 H3 r3 σ3 ∧ Kp H0 r σ H3 r3 σ3 ∧ forL bd g (l.drop (i + 1)) r3 = some fl, fun σ3 H3 z => ⟨l.length - (i + 1), by omega, rfl, hlt, z⟩, fun x H2 yx => ?_⟩
    obtain ⟨s2, ix⟩ := yd x H2 yx
    have R2 := R1.same s2
    refine ⟨O0, r1, l[i], r2, R2, ix _ hd, e4, fun σ2 R2' k2 => ⟨O0, r2, f1, R2', e6, ?_⟩⟩
    have k3 := (k1.trans (Kp.of_same r1 σ1 s2)).trans k2
    have k4 := (k0.trans (Kp.of_same r1 σ1 s2)).trans k2
    cases f1 with
    | nx r3 => exact fun σ3 H3 R3 kk => ⟨r3, R3, k3.trans kk, e7⟩
    | ct r3 => exact fun σ3 H3 R3 kk => ⟨r3, R3, k3.trans kk, e7⟩
    | bk r3 => cases e7; exact fun σ3 H3 R3 kk => q σ3 H3 R3 (k4.trans kk)
    | rt d r3 => cases e7; exact PostS.before R2' k4 q
    | rf l' r3 => cases e7; exact PostS.before R2' k4 q
  · have hl : l.drop i = [] := List.drop_eq_nil_of_le (by omega)
    rw [hl] at e3
    cases e3
    exact .inl ⟨y2 (by omega), q σ1 H1 R1 k0⟩
theorem dg_name (i : Nat) {x : Str} (hN : X.N.Nodup) (hi : X.N[i]? = some x := by rfl) (hx : Loc X.env.scope x := by first | exact Or.inl rfl | exact Or.inr rfl) (hf : X.fn x = true ∨ X.env.scope.names.lookup x = some .local := by first | exact .inl rfl | exact .inr rfl) : DG X (.Name x pos) (setV i) := by
  refine PG.conseq (pg_name hN hi hx hf) fun v σ H Q h => ?_
  obtain ⟨O0, r, d, r', hR, iv, e, q⟩ := h
  obtain ⟨hl, np, rfl⟩ := setV_some e
  obtain ⟨R1, k1⟩ := hR.setv hl np iv
  exact q _ R1 k1
/-- several targets -/
def bdNil : List D → En → Option En := fun l r => if l.isEmpty then some r else none
def bdCons (b : D → En → Option En) (bs : List D → En → Option En) : List D → En → Option En := fun l r => match l with
  | [] => none
  | d :: t => (b d r).bind fun r1 => bs t r1
def bdTup (n : Nat) (bs : List D → En → Option En) : D → En → Option En := fun d r => match d with
  | .tup l => if l.length = n then bs l r else none
  | _ => none
def lGs (K : PySem.W.Frag) (bs : List D → En → Option En) : TGs := fun vs σ H Q => ∃ O0 r l r', R K O0 H r σ ∧ IsL K (Ow O0 r σ) H l vs ∧ bs l r = some r' ∧ ∀ σ', R K O0 H r' σ' → Kp H r σ H r' σ' → Q σ' H
def DGs (X : Cx) (ts : List Expr) (bs : List D → En → Option En) : Prop := PGs X ts (lGs X.K bs)
theorem PGs.conseq {e : List Expr} {t t' : TGs} (h : PGs X e t) (i : ∀ v σ H Q, t' v σ H Q → t v σ H Q) : PGs X e t' := fun pins s σ H v u Q I r q => h pins s σ H v u Q I r (i v σ H Q q)
theorem dgs_nil : DGs X [] bdNil := by
  refine PGs.conseq pgs_nil fun vs σ H Q h => ?_
  obtain ⟨O0, r, l, r', hR, il, e, q⟩ := h
  unfold bdNil at e
  cases l with
  | nil =>
    unfold IsL at il
    cases e
    exact ⟨il, q σ hR (Kp.refl H r σ)⟩
  | cons d l => cases e
theorem dgs_cons {e : Expr} {es : List Expr} {bs : List D → En → Option En} (h1 : DG X e bd) (h2 : DGs X es bs) (hs : (assignEach (e :: es) X.env).map (·.2) = assign e X.env :: (assignEach es X.env).map (·.2) := by rfl) : DGs X (e :: es) (bdCons bd bs) := by
  refine PGs.conseq (pgs_cons h1 h2 hs) fun vs σ H Q h => ?_
  obtain ⟨O0, r, l, r', hR, il, e, q⟩ := h
  cases l with
  | nil => cases e
  | cons d t =>
    unfold IsL at il
    obtain ⟨v, us, rfl, i1, i2⟩ := il
    obtain ⟨r1, e1, e2⟩ := bind_some e
    refine ⟨v, us, rfl, O0, r, d, r1, hR, i1, e1, fun σ1 R1 k1 => ⟨O0, r1, t, r', R1, ?_, e2, fun σ2 R2 k2 => q σ2 R2 (k1.trans k2)⟩⟩
    exact IsL.mono (Same.kp (Same.refl H) _) hR.ol (fun a z n => z.elim .inl fun z => (k1.new a z).elim .inr fun z => absurd z n) _ _ i2
theorem dg_tup {es : List Expr} {k : Nat} {n : Nat} {bs : List D → En → Option En} (hc : X.calm = true) (h : DGs X es bs) (hn : (assignEach es X.env).length = n := by rfl) (hst : (assignEach es X.env).findIdx? (·.1) = none := by rfl) : DG X (.Tuple es k pos) (bdTup n bs) := by
  refine PG.conseq (pg_tup hc h hn hst) fun v σ H Q h => ?_
  obtain ⟨O0, r, d, r', hR, iv, e, q⟩ := h
  cases d with
  | tup l =>
    rw [Is.tup_iff] at iv
    obtain ⟨a, xs, rfl, hs, il⟩ := iv
    simp only [bdTup] at e
    split at e
    · rename_i hl
      exact ⟨a, xs, rfl, hs, by rw [← il.length]; exact hl, O0, r, l, r', hR, il, e, q⟩
    · cases e
  | _ => cases e
end
end DD
namespace DD
open PySem PySem.Spec PyProof.Rows L2

/-! ### defs -/
inductive Rs where
  | v (d : D) | f (l : List D)
abbrev MF := List Sl → Option (Rs × List Sl)
structure PostF (K : PySem.W.Frag) (O0 : Addr → Prop) (H : Hp) (as : List Sl) (vs : List V) (H' : Hp) (as' : List Sl) : Prop where
  keep : Keep (MutAt as (vs.map some)) H H'
  live : ∀ b, H' b = none → H b = none
  lst : ∀ b xs, H b = some (.lst xs) → ∃ ys, H' b = some (.lst ys)
  par : ∀ (i : Nat) (l : List D), as[i]? = some (.p l) → ∃ l' a xs, as'[i]? = some (.p l') ∧ vs[i]? = some (.ref a) ∧ H' a = some (.lst xs) ∧ IsL K O0 H' l' xs
def RsP (K : PySem.W.Frag) (O0 : Addr → Prop) (H : Hp) (as : List Sl) (vs : List V) (as' : List Sl) (Q : VK) : Rs → Prop
  | .v d => ∀ v H', PostF K O0 H as vs H' as' → Is K O0 H' d v → Q v H'
  | .f l => ∀ a xs H', PostF K O0 H as vs H' as' → H a = none → H' a = some (.lst xs) → IsL K (fun b => O0 b ∨ b = a) H' l xs → Q (.ref a) H'
def spD (K : PySem.W.Frag) (n : Nat) (m : MF) : Sp := fun vs H Q _ => ∃ O0 as rs as', as.length = n ∧ R K O0 H as (vs.map some) ∧ (∀ (i : Nat) (l : List D), as[i]? ≠ some (.o l) ∧ as[i]? ≠ some (.z l)) ∧ m as = some (rs, as') ∧ RsP K O0 H as vs as' Q rs
def mkF (n N : Nat) (g : MS) : MF := fun as => (g (as ++ List.replicate (N - n) .un)).bind fun fl => match fl with
  | .rt d r' => some (.v d, r'.take n)
  | .rf l r' => some (.f l, r'.take n)
  | .nx r' => some (.v .non, r'.take n)
  | _ => none

section
variable {P : Program} {w : World} {K : PySem.W.Frag} {mg : Str → Option Value} {base : Heap}
theorem own_start {q : Sl → Option (List D)} (hq : q .un = none) {as : List Sl} {vs : List V} {k n : Nat} {a : Addr} (hl : as.length = vs.length) : AtS q (as ++ List.replicate k .un) (vs.map some ++ List.replicate n none) a ↔ AtS q as (vs.map some) a := by
  constructor
  · rintro ⟨i, l, e, q'⟩
    by_cases hi : i < as.length
    · rw [List.getElem?_append_left hi] at e
      rw [List.getElem?_append_left (by simp; omega)] at q'
      exact ⟨i, l, e, q'⟩
    · rw [List.getElem?_append_right (by omega), List.getElem?_replicate] at e
      split at e
      · have e' : q .un = some l := e
        rw [hq] at e'; cases e'
      · cases e
  · rintro ⟨i, l, e, q'⟩
    have hi : i < as.length := by
      cases e1 : as[i]? with
      | none => rw [e1] at e; cases e
      | some x => exact (List.getElem?_eq_some_iff.mp e1).1
    exact ⟨i, l, by rw [List.getElem?_append_left hi]; exact e, by rw [List.getElem?_append_left (by simp; omega)]; exact q'⟩
theorem R.start {O0 : Addr → Prop} {H : Hp} {as : List Sl} {vs : List V} {k : Nat} (h : R K O0 H as (vs.map some)) : R K O0 H (as ++ List.replicate k .un) (vs.map some ++ List.replicate k none) := by
  have hl : as.length = vs.length := by simpa using h.len
  have own : ∀ a, Ow O0 (as ++ List.replicate k .un) (vs.map some ++ List.replicate k none) a → H a ≠ none → Ow O0 as (vs.map some) a := fun a z _ => z.imp id (own_start rfl hl).mp
  have pre : ∀ (i : Nat) (x : Sl), (as ++ List.replicate k .un)[i]? = some x → x ≠ .un → as[i]? = some x ∧ (vs.map some ++ List.replicate k none)[i]? = (vs.map some)[i]? := fun i x e n => by
    by_cases hi : i < as.length
    · rw [List.getElem?_append_left hi] at e
      exact ⟨e, List.getElem?_append_left (by simp; omega)⟩
    · rw [List.getElem?_append_right (by omega), List.getElem?_replicate] at e
      split at e
      · cases e; exact absurd rfl n
      · cases e
  have preO : ∀ (i : Nat) (l : List D), ((as ++ List.replicate k .un)[i]?).bind Sl.own = some l → (as[i]?).bind Sl.own = some l ∧ (vs.map some ++ List.replicate k none)[i]? = (vs.map some)[i]? := fun i l e => by
    cases e1 : (as ++ List.replicate k .un)[i]? with
    | none => rw [e1] at e; cases e
    | some x =>
      obtain ⟨q1, q2⟩ := pre i x e1 (by rintro rfl; rw [e1] at e; cases e)
      rw [e1] at e
      exact ⟨by rw [q1]; exact e, q2⟩
  refine ⟨by simp [hl], fun i d e => ?_, fun i l e => ?_, fun i j a l m e1 e2 q1 q2 => ?_, h.o0, fun i l a e q => ?_, fun i l a e q => ?_⟩
  · obtain ⟨q1, q2⟩ := pre i _ e (by intro z; cases z)
    obtain ⟨v, e3, q3⟩ := h.val i d q1
    exact ⟨v, q2.trans e3, Is.mono (Same.kp (Same.refl H) _) h.ol own _ _ q3⟩
  · obtain ⟨q1, q2⟩ := preO i l e
    obtain ⟨a, xs, e3, e4, q3⟩ := h.own i l q1
    exact ⟨a, xs, q2.trans e3, e4, IsL.mono (Same.kp (Same.refl H) _) h.ol own _ _ q3⟩
  · obtain ⟨p1, p2⟩ := preO i l e1
    obtain ⟨p3, p4⟩ := preO j m e2
    exact h.apart i j a l m p1 p3 (p2 ▸ q1) (p4 ▸ q2)
  · rcases e with e | e
    · obtain ⟨p1, p2⟩ := pre i _ e (by intro z; cases z)
      exact h.loc i l a (.inl p1) (p2 ▸ q)
    · obtain ⟨p1, p2⟩ := pre i _ e (by intro z; cases z)
      exact h.loc i l a (.inr p1) (p2 ▸ q)
  · obtain ⟨p1, p2⟩ := pre i _ e (by intro z; cases z)
    exact h.par i l a p1 (p2 ▸ q)

theorem fn_d {x qual : Str} {st : Stmt} {f : Addr} {fd : FuncData} {N ps : List Str} {k : Nat} {g : MS} (F : Fun K x qual st f fd) (S : FnScope N ps (defScope st)) (n : Nat) (nN : Nat) (hn : ps.length = n := by rfl) (hN : N.length = nN := by rfl)
    (hb : ∀ (cdv : Value) (A : Around) (outer : List Env) (s : Shared) (H : Hp) (E : XK), Room k (A.deeper (envOfC qual (defScope st) s.heap.objs.size f cdv)) →
      DSs (cxOf CX0 P w K mg base N qual (defScope st) f cdv A outer s H E).nox (defBody st) g) : FnOk P w K mg base CX0 (k + 1) f fd ps (spD K n (mkF n nN g)) := by
  subst hn hN
  refine F.ok S (fun vs H Q E h => ?_) (fun cdv A outer s H vs Q E hr h => ?_)
  · obtain ⟨O0, as, rs, as', hl, hR, _⟩ := h
    have := hR.len
    simp at this; omega
  · obtain ⟨O0, as, rs, as', hl, hR, no, e, q⟩ := h
    have hlv : as.length = vs.length := by simpa using hR.len
    refine ⟨_, hb cdv A outer s H E hr, ?_⟩
    obtain ⟨fl, e1, e2⟩ := bind_some e
    have hst : L2.start N vs = vs.map some ++ List.replicate (N.length - ps.length) none := by unfold L2.start; rw [← hlv, hl]
    rw [hst]
    have R0 := R.start (k := N.length - ps.length) hR
    have fin : ∀ (σ' : St) (H' : Hp) (r' : En), R K O0 H' r' σ' → Kp H (as ++ List.replicate (N.length - ps.length) .un) (vs.map some ++ List.replicate (N.length - ps.length) none) H' r' σ' → PostF K O0 H as vs H' (r'.take ps.length) := fun σ' H' r' R' k' => by
      refine ⟨fun b o eb nb => k'.keep b o eb fun z => nb ((own_start rfl hlv).mp z), k'.live, k'.lst, fun i l ei => ?_⟩
      have hi : i < as.length := (List.getElem?_eq_some_iff.mp ei).1
      obtain ⟨⟨l', e3⟩, e4⟩ := k'.par i l (by rw [List.getElem?_append_left hi]; exact ei)
      rw [List.getElem?_append_left (by simp; omega)] at e4
      obtain ⟨a, xs, e5, e6, e7⟩ := R'.own i l' (by rw [e3]; rfl)
      rw [e4] at e5
      have ev : vs[i]? = some (.ref a) := by
        rw [List.getElem?_map] at e5
        cases e8 : vs[i]? with
        | none => rw [e8] at e5; cases e5
        | some y => rw [e8] at e5; cases e5; rfl
      exact ⟨l', a, xs, by rw [List.getElem?_take_of_lt (by omega)]; exact e3, ev, e6, IsL.mono (Same.kp (Same.refl H') _) R'.ol (fun _ z _ => .inl z) _ _ e7⟩
    refine ⟨O0, _, fl, R0, e1, ?_⟩
    cases fl with
    | nx r' => cases e2; exact fun σ' H' R' k' => q .non H' (fin σ' H' r' R' k') (by rw [Is.non_iff])
    | bk r' => cases e2
    | ct r' => cases e2
    | rt d r' => cases e2; exact fun v σ' H' R' k' i' => q v H' (fin σ' H' r' R' k') i'
    | rf l r' =>
      cases e2
      refine fun a xs σ' H' R' k' fr no0 ea il => q a xs H' (fin σ' H' r' R' k') ?_ ea il
      rcases fr with z | ⟨i, m, ei, _⟩
      · exact z
      · exfalso
        by_cases hi : i < as.length
        · rw [List.getElem?_append_left hi] at ei; exact (no i m).1 ei
        · rw [List.getElem?_append_right (by omega), List.getElem?_replicate] at ei
          split at ei <;> cases ei
theorem fn_0 {f : Addr} {fd : FuncData} {ps : List Str} {k : Nat} (n : Nat) : FnOk P w K mg base CX0 k f fd ps (spD K n fun _ => none) :=
  ⟨(fun vs H Q E h => by obtain ⟨_, _, _, _, _, _, _, e, _⟩ := h; cases e), (fun A outer s H args us vs Q E _ _ _ _ h => by obtain ⟨_, _, _, _, _, _, _, e, _⟩ := h; cases e)⟩
end

/-! ### calls -/
def rsD : Rs → D
  | .v d => d
  | .f l => .lst l
def mCall (n : Nat) (m : MF) (fs : ML) : ME := fun r => (fs r).bind fun ds => if ds.length = n then (m (ds.map .v)).map fun p => rsD p.1 else none
def mCallF (n : Nat) (m : MF) (fs : ML) : ML := fun r => (fs r).bind fun ds => if ds.length = n then (m (ds.map .v)).bind fun p => match p.1 with
  | .f l => some l
  | _ => none
  else none
section
variable {K : PySem.W.Frag}
theorem R.args {O : Addr → Prop} {H : Hp} {ds : List D} {vs : List V} (ol : OLst O H) (h : IsL K O H ds vs) : R K O H (ds.map .v) (vs.map some) := by
  have no : ∀ (i : Nat) (l : List D), ((ds.map Sl.v)[i]?).bind Sl.own ≠ some l := fun i l e => by
    rw [List.getElem?_map] at e
    cases e1 : ds[i]? with
    | none => rw [e1] at e; cases e
    | some x => rw [e1] at e; cases e
  refine ⟨by simp [h.length], fun i d e => ?_, fun i l e => absurd e (no i l), fun i j a l m e1 => absurd e1 (no i l), ol, fun i l a e => absurd (show ((ds.map Sl.v)[i]?).bind Sl.own = some l by rcases e with e | e <;> rw [e] <;> rfl) (no i l), fun i l a e => absurd (show ((ds.map Sl.v)[i]?).bind Sl.own = some l by rw [e]; rfl) (no i l)⟩
  rw [List.getElem?_map] at e
  cases e1 : ds[i]? with
  | none => rw [e1] at e; cases e
  | some x =>
    rw [e1] at e; cases e
    obtain ⟨v, e2, q⟩ := h.get e1
    exact ⟨v, by rw [List.getElem?_map, e2]; rfl, Is.mono (Same.kp (Same.refl H) _) ol (fun a z _ => z.elim id fun ⟨j, l, ej, _⟩ => absurd ej (no j l)) _ _ q⟩
theorem own_none {ds : List D} {σ : St} {a : Addr} : ¬ MutAt (ds.map .v) σ a := fun ⟨i, l, e, _⟩ => by
  rw [List.getElem?_map] at e
  cases e1 : ds[i]? with
  | none => rw [e1] at e; cases e
  | some x => rw [e1] at e; cases e
theorem PostF.same {O0 : Addr → Prop} {H H' : Hp} {ds : List D} {vs : List V} {as' : List Sl} (h : PostF K O0 H (ds.map .v) vs H' as') : Same H H' := fun b o e => h.keep b o e own_none
end
section
variable {X : Cx} {k n : Nat} {f : Addr} {fd : FuncData} {ps : List Str} {m : MF} {x : Str} {p pos : Pos} {e : Expr} {es : List Expr} {fs : ML}
theorem sp_pure {O0 : Addr → Prop} {r : En} {σ : St} {H H1 : Hp} {ds : List D} {vs : List V} {rs : Rs} {as' : List Sl} {Q : VK} {E : XK} (hR : R X.K O0 H r σ) (s1 : Same H H1) (il : IsL X.K (Ow O0 r σ) H1 ds vs) (hl : ds.length = n) (em : m (ds.map .v) = some (rs, as'))
    (q : RsP X.K (Ow O0 r σ) H1 (ds.map .v) vs as' Q rs) : spD X.K n m (vs ++ []) H1 Q E := by
  rw [List.append_nil]
  refine ⟨Ow O0 r σ, ds.map .v, rs, as', by simpa using hl, R.args (hR.same s1).ol il, fun i l => ?_, em, q⟩
  rw [List.getElem?_map]
  cases e1 : ds[i]? with
  | none => exact ⟨(fun z => by cases z), (fun z => by cases z)⟩
  | some y => exact ⟨(fun z => by cases z), (fun z => by cases z)⟩
theorem de_call (F : FnOk X.prog X.w X.K X.mg X.base CX0 k f fd ps (spD X.K n m)) (hr : Room k X.A) (hg : Gl X x) (hm : X.mg x = some (.ref f)) (hk : PySem.W.keepIn X.K (.ref f) = true) (hb : Binds X.K fd ps []) (ha : DA X (e :: es) fs)
    (hdb : (x == ("__debug__" : Str)) = false := by decide) (he : starEach (e :: es) X.env = (false, eval e X.env) :: starEach es X.env := by rfl) (hpl : (backTo pos (starEach es X.env)).any (·.1) = false := by rfl) :
    DE X (.Call (.Name x p) (e :: es) [] pos) (mCall n m fs) := by
  refine PE.conseq (pe_call (E := fun _ _ _ => False) (dvs := []) F hr hg hm hk hb .nil pass0 ha hdb he hpl) fun σ H Q h => ?_
  obtain ⟨O0, r, d, hR, e, q⟩ := h
  obtain ⟨ds, e1, e2⟩ := bind_some e
  split at e2
  · rename_i hl
    obtain ⟨⟨rs, as'⟩, e3, rfl⟩ := map_some e2
    refine ⟨O0, r, ds, hR, e1, fun vs H1 s1 il => sp_pure hR s1 il hl e3 ?_⟩
    cases rs with
    | v d => exact fun v H2 pf iv => q v H2 (s1.trans pf.same) iv
    | f l =>
      refine fun a xs H2 pf na ea il2 => q _ H2 (s1.trans pf.same) ?_
      have R1 := hR.same s1
      have olp : OLst (fun b => Ow O0 r σ b ∨ b = a) H2 := fun b z => z.elim (fun z => (R1.same pf.same).ol b z) fun z => by subst z; exact ⟨xs, ea⟩
      show Is X.K (Ow O0 r σ) H2 (.lst l) (.ref a)
      rw [Is.lst_iff]
      exact ⟨a, xs, rfl, .inl ⟨R1.nofresh na, .inl ea⟩, IsL.mono (Same.kp (Same.refl H2) _) olp (fun _ z _ => .inl z) _ _ il2⟩
  · cases e2
theorem de_call0 (F : FnOk X.prog X.w X.K X.mg X.base CX0 k f fd ps (spD X.K 0 m)) (hr : Room k X.A) (hg : Gl X x) (hm : X.mg x = some (.ref f)) (hk : PySem.W.keepIn X.K (.ref f) = true) (hb : Binds X.K fd ps [])
    (hdb : (x == ("__debug__" : Str)) = false := by decide) : DE X (.Call (.Name x p) [] [] pos) (mCall 0 m mNil) := by
  refine PE.conseq (pe_call0 (E := fun _ _ _ => False) (dvs := []) F hr hg hm hk hb .nil pass0 hdb) fun σ H Q h => ?_
  obtain ⟨O0, r, d, hR, e, q⟩ := h
  obtain ⟨ds, e1, e2⟩ := bind_some e
  unfold mNil at e1; cases e1
  split at e2
  · rename_i hl
    obtain ⟨⟨rs, as'⟩, e3, rfl⟩ := map_some e2
    refine sp_pure (E := fun _ _ _ => False) hR (Same.refl H) .nil hl e3 ?_
    cases rs with
    | v d => exact fun v H2 pf iv => q v H2 pf.same iv
    | f l =>
      refine fun a xs H2 pf na ea il2 => q _ H2 pf.same ?_
      have olp : OLst (fun b => Ow O0 r σ b ∨ b = a) H2 := fun b z => z.elim (fun z => (hR.same pf.same).ol b z) fun z => by subst z; exact ⟨xs, ea⟩
      show Is X.K (Ow O0 r σ) H2 (.lst l) (.ref a)
      rw [Is.lst_iff]
      exact ⟨a, xs, rfl, .inl ⟨hR.nofresh na, .inl ea⟩, IsL.mono (Same.kp (Same.refl H2) _) olp (fun _ z _ => .inl z) _ _ il2⟩
  · cases e2
theorem df_call (F : FnOk X.prog X.w X.K X.mg X.base CX0 k f fd ps (spD X.K n m)) (hr : Room k X.A) (hg : Gl X x) (hm : X.mg x = some (.ref f)) (hk : PySem.W.keepIn X.K (.ref f) = true) (hb : Binds X.K fd ps []) (ha : DA X (e :: es) fs)
    (hdb : (x == ("__debug__" : Str)) = false := by decide) (he : starEach (e :: es) X.env = (false, eval e X.env) :: starEach es X.env := by rfl) (hpl : (backTo pos (starEach es X.env)).any (·.1) = false := by rfl) :
    DF X (.Call (.Name x p) (e :: es) [] pos) (mCallF n m fs) := by
  refine PE.conseq (pe_call (E := fun _ _ _ => False) (dvs := []) F hr hg hm hk hb .nil pass0 ha hdb he hpl) fun σ H Q h => ?_
  obtain ⟨O0, r, l, hR, e, q⟩ := h
  obtain ⟨ds, e1, e2⟩ := bind_some e
  split at e2
  · rename_i hl
    obtain ⟨⟨rs, as'⟩, e3, e4⟩ := bind_some e2
    refine ⟨O0, r, ds, hR, e1, fun vs H1 s1 il => sp_pure hR s1 il hl e3 ?_⟩
    cases rs with
    | v d => cases e4
    | f l' => cases e4; exact fun a xs H2 pf na ea il2 => q a xs H2 (s1.trans pf.same) (s1.free na) ea il2
  · cases e2
end

/-! ### what a loop walks -/
section
variable {X : Cx} {tg l : Expr} {f : ME} {p pos : Pos}
def itemsD : D → Option (List D)
  | .lst l => some l
  | .tup l => some l
  | _ => none
def mIt (f : ME) : ML := fun r => (f r).bind itemsD
theorem get_of_lt {l : List D} {i : Nat} (h : i < l.length) : ∃ d, l[i]? = some d := ⟨l[i], by simp [h]⟩
theorem yl_list {K : PySem.W.Frag} {O M : Addr → Prop} (mo : ∀ a, M a → O a) {H : Hp} {a : Addr} {xs : List V} {ds : List D} (ol : OLst O H) (rd : ∀ H1, Keep M H H1 → SqL K H1 a xs) (il : IsL K O H ds xs): Ylds K O M H (Itl K a) ds := by
  intro i H1 O' kp oo
  have kp' : Keep O H H1 := fun b o e n => kp b o e fun z => n (mo b z)
  have rd1 : SqL K H1 a xs := rd H1 kp
  refine ⟨fun hi => ⟨?_, fun x H' y => ?_⟩, fun hi => ⟨xs, rd1, by rw [← il.length]; exact Nat.le_of_eq hi.symm⟩⟩
  · obtain ⟨d, e⟩ := get_of_lt hi
    obtain ⟨v, e1, _⟩ := il.get e
    exact ⟨xs, v, rd1, e1⟩
  · obtain ⟨rfl, y⟩ := y
    refine ⟨Same.refl _, fun d e => ?_⟩
    obtain ⟨v, e1, q⟩ := il.get e
    have := y xs rd1
    rw [e1] at this; cases this
    exact Is.mono kp' ol oo _ _ q
theorem yl_tup {K : PySem.W.Frag} {O M : Addr → Prop} (mo : ∀ a, M a → O a) {H : Hp} {a : Addr} {xs : List V} {ds : List D} (ol : OLst O H) (rd : SqT K H a xs) (il : IsL K O H ds xs) : Ylds K O M H (Itt K a) ds := by
  intro i H1 O' kp oo
  have kp' : Keep O H H1 := fun b o e n => kp b o e fun z => n (mo b z)
  have rd1 : SqT K H1 a xs := SqT.keep kp' ol rd
  refine ⟨fun hi => ⟨?_, fun x H' y => ?_⟩, fun hi => ⟨xs, rd1, by rw [← il.length]; exact Nat.le_of_eq hi.symm⟩⟩
  · obtain ⟨d, e⟩ := get_of_lt hi
    obtain ⟨v, e1, _⟩ := il.get e
    exact ⟨xs, v, rd1, e1⟩
  · obtain ⟨rfl, y⟩ := y
    refine ⟨Same.refl _, fun d e => ?_⟩
    obtain ⟨v, e1, q⟩ := il.get e
    have := y xs rd1
    rw [e1] at this; cases this
    exact Is.mono kp' ol oo _ _ q
/-- a list or a tuple -/
theorem pi_seq {tl : TE} (hl : PE X l tl) : PI X tg l (fun σ H Rr => tl σ H fun x H1 => ∃ a, x = .ref a ∧ (((∃ xs, SqL X.K H1 a xs) ∧ Rr (Itl X.K a) H1) ∨ ((∃ xs, SqT X.K H1 a xs) ∧ Rr (Itt X.K a) H1))) := by
  intro pins s σ H R I h
  refine thn (hl pins s σ H _ I h) fun v s1 ⟨x, H1, I1, r1, q1⟩ => ?_
  obtain ⟨a, e, q⟩ := q1
  subst e
  cases r1
  rcases q with ⟨⟨xs, hq⟩, q⟩ | ⟨⟨xs, hq⟩, q⟩
  · obtain ⟨its, rv, p, hz⟩ := I1.list hq
    refine wpAny_pyIter_list p.isList ?_
    refine ⟨s1.heap.objs.size, [s1.heap.objs.size], _, _, H1, rfl, I1.kept (t' := s1.toks) fun b o e => Heap.get?_push_of_some _ e, turn_list a _, ⟨_, Heap.get?_push_size _ rfl, rfl, rfl⟩, fun b hb => ?_, q⟩
    have e : b = s1.heap.objs.size := by simpa using hb
    subst e
    exact I1.fpOk (Nat.le_refl _) (I1.hok.fresh (Nat.le_refl _))
  · obtain ⟨its, rv, p, hz⟩ := I1.tuple hq
    refine wpAny_pyIter_tuple (show s1.heap.IsTuple a its.toArray from p) ?_
    refine ⟨s1.heap.objs.size, [s1.heap.objs.size], _, _, H1, rfl, I1.kept (t' := s1.toks) fun b o e => Heap.get?_push_of_some _ e, turn_tuple a _, ⟨_, Heap.get?_push_size _ rfl, rfl, rfl⟩, fun b hb => ?_, q⟩
    have e : b = s1.heap.objs.size := by simpa using hb
    subst e
    exact I1.fpOk (Nat.le_refl _) (I1.hok.fresh (Nat.le_refl _))
theorem di_seq (hl : DE X l f) : DI X tg l (mIt f) := by
  refine PI.conseq (pi_seq hl) fun σ H Rr h => ?_
  obtain ⟨O0, r, ds, hR, e, q⟩ := h
  obtain ⟨d, e1, e2⟩ := bind_some e
  refine ⟨O0, r, d, hR, e1, fun v H1 s1 i1 => ?_⟩
  have ol := (hR.same s1).ol
  cases d with
  | lst l' =>
    cases e2
    rw [Is.lst_iff] at i1
    obtain ⟨a, xs, rfl, rd, il⟩ := i1
    exact ⟨a, rfl, .inl ⟨⟨xs, rd.sq⟩, q _ H1 s1 (yl_list (fun a z => .inr z.own) ol (fun H2 k2 => rd.imp (fun z => Rd.keep k2 (fun y => z.1 (.inr y.own)) z.2) id) il)⟩⟩
  | tup l' =>
    cases e2
    rw [Is.tup_iff] at i1
    obtain ⟨a, xs, rfl, rd, il⟩ := i1
    exact ⟨a, rfl, .inr ⟨⟨xs, rd⟩, q _ H1 s1 (yl_tup (fun a z => .inr z.own) ol rd il)⟩⟩
  | _ => cases e2
def rngD (lo : Int) (n : Nat) : List D := (List.range n).map fun i => .int (lo + (i : Nat))
theorem yl_rng {K : PySem.W.Frag} {O M : Addr → Prop} {H : Hp} (lo : Int) (n : Nat) : Ylds K O M H (Itr lo n) (rngD lo n) := by
  intro i H1 O' kp oo
  have hl : (rngD lo n).length = n := by simp [rngD]
  refine ⟨fun hi => ⟨by rw [hl] at hi; exact hi, fun x H' y => ?_⟩, fun hi => by rw [hl] at hi; exact Nat.le_of_eq hi.symm⟩
  obtain ⟨rfl, rfl⟩ := y
  refine ⟨Same.refl _, fun d e => ?_⟩
  rw [hl] at hi
  unfold rngD at e
  rw [List.getElem?_map, List.getElem?_range hi] at e
  cases e
  rw [Is.int_iff]
def intD : D → Option Int
  | .int i => some i
  | _ => none
def mRng1 (f : ME) : ML := fun r => (f r).bind fun d => (intD d).bind fun j => if -(2 ^ 62) ≤ j ∧ j < 2 ^ 62 then some (rngD 0 j.toNat) else none
def mRng2 (f g : ME) : ML := fun r => (f r).bind fun d => (intD d).bind fun i => (g r).bind fun d => (intD d).bind fun j => if -(2 ^ 62) ≤ i ∧ i < 2 ^ 62 ∧ -(2 ^ 62) ≤ j ∧ j < 2 ^ 62 then some (rngD i (j - i).toNat) else none
theorem intD_some {d : D} {i : Int} (e : intD d = some i) : d = .int i := by
  cases d <;> first | cases e; rfl | cases e
theorem di_rng1 (hg : Gl X "range") (hm : X.mg "range" = none) (ha : DE X l f) (hs : starEach [l] X.env = [(false, eval l X.env)] := by rfl) : DI X tg (.Call (.Name "range" p) [l] [] pos) (mRng1 f) := by
  refine PI.conseq (pi_range1 hg hm (pa_cons ha pa_nil hs) hs) fun σ H Rr h => ?_
  obtain ⟨O0, r, ds, hR, e, q⟩ := h
  obtain ⟨d, e1, e2⟩ := bind_some e
  obtain ⟨j, e3, e4⟩ := bind_some e2
  cases intD_some e3
  split at e4
  · rename_i hj
    cases e4
    refine ⟨O0, r, _, hR, e1, fun v H1 s1 i1 => ?_⟩
    rw [Is.int_iff] at i1
    exact ⟨j, by rw [i1], hj.1, hj.2, q _ H1 s1 (yl_rng 0 _)⟩
  · cases e4
theorem di_rng2 {l2 : Expr} {g : ME} (hg : Gl X "range") (hm : X.mg "range" = none) (ha : DE X l f) (hb : DE X l2 g) (hs : starEach [l, l2] X.env = [(false, eval l X.env), (false, eval l2 X.env)] := by rfl) (hs2 : starEach [l2] X.env = [(false, eval l2 X.env)] := by rfl) :
    DI X tg (.Call (.Name "range" p) [l, l2] [] pos) (mRng2 f g) := by
  refine PI.conseq (pi_range2 hg hm (pa_cons ha (pa_cons hb pa_nil hs2) (by rw [hs, hs2])) hs hs2) fun σ H Rr h => ?_
  obtain ⟨O0, r, ds, hR, e, q⟩ := h
  obtain ⟨d, e1, e2⟩ := bind_some e
  obtain ⟨i, e3, e4⟩ := bind_some e2
  obtain ⟨d', e5, e6⟩ := bind_some e4
  obtain ⟨j, e7, e8⟩ := bind_some e6
  cases intD_some e3
  cases intD_some e7
  split at e8
  · rename_i hj
    cases e8
    refine ⟨O0, r, _, hR, e1, fun v H1 s1 i1 => ⟨O0, r, _, hR.same s1, e5, fun v2 H2 s2 i2 => ?_⟩⟩
    rw [Is.int_iff] at i1 i2
    exact ⟨i, j, by rw [i1, i2], hj, q _ H2 (s1.trans s2) (yl_rng i _)⟩
  · cases e8
end
end DD
namespace DD
open PySem PySem.Spec PyProof.Rows L2

/-! ### comprehensions: the block's own context -/
def clOf (env : Env) : List (Str × NameKind) → List (Str × Addr) → List (Str × Addr)
  | [], acc => acc
  | (n, k) :: r, acc => if k = .free then clOf env r ((n, (env.cells.lookup n).getD 0) :: acc) else clOf env r acc
theorem closure_eq {env : Env} : ∀ (names : List (Str × NameKind)) (acc : List (Str × Addr)), (∀ y ∈ names, y.2 = .free → ∃ c, env.cells.lookup y.1 = some c) →
    (forIn names acc (fun (x : Str × NameKind) (cs : List (Str × Addr)) => match x with
      | (name, kind) => if (kind == NameKind.free) = true then do let a ← cellOf env name; pure (ForInStep.yield ((name, a) :: cs)) else pure (ForInStep.yield cs)) : Sem (List (Str × Addr))) = pure (clOf env names acc)
  | [], acc, _ => rfl
  | (n, k) :: r, acc, h => by
    rw [List.forIn_cons]
    by_cases hk : k = .free
    · obtain ⟨c, hc⟩ := h (n, k) List.mem_cons_self hk
      have ih := closure_eq r ((n, c) :: acc) fun y hy => h y (List.mem_cons_of_mem _ hy)
      subst hk
      show ((do let a ← cellOf env n; pure (ForInStep.yield ((n, a) :: acc))) >>= _ : Sem _) = _
      unfold cellOf
      rw [hc]
      unfold clOf
      rw [if_pos rfl, hc]
      exact ih
    · have hb : (k == NameKind.free) = false := by simpa using hk
      have ih := closure_eq r acc fun y hy => h y (List.mem_cons_of_mem _ hy)
      unfold clOf
      rw [if_neg hk]
      simp only [hb]
      exact ih
theorem closureFor_eq {scope : Scope} {env : Env} (h : ∀ y ∈ scope.names, y.2 = .free → ∃ c, env.cells.lookup y.1 = some c) : closureFor scope env = pure (clOf env scope.names []) := by
  unfold closureFor
  have := closure_eq (env := env) scope.names [] h
  first
    | exact this
    | (simp only [bind_pure]; exact this)
    | (rw [← this]; rfl)
theorem clOf_sub {env : Env} {x : Str} {c : Addr} : ∀ (names : List (Str × NameKind)) (acc : List (Str × Addr)), (∀ y ∈ names, y.2 = .free → ∃ c, env.cells.lookup y.1 = some c) → (∀ c, acc.lookup x = some c → env.cells.lookup x = some c) →
    (clOf env names acc).lookup x = some c → env.cells.lookup x = some c
  | [], acc, _, ha, e => ha c e
  | (n, k) :: r, acc, h, ha, e => by
    unfold clOf at e
    split at e
    · rename_i hk
      refine clOf_sub r _ (fun y hy => h y (List.mem_cons_of_mem _ hy)) (fun c' e' => ?_) e
      rw [List.lookup_cons] at e'
      split at e'
      · rename_i hx
        have hx' : x = n := by simpa using hx
        subst hx'
        obtain ⟨c2, q⟩ := h (x, k) List.mem_cons_self hk
        rw [q] at e' ⊢
        simpa using e'
      · exact ha c' e'
    · exact clOf_sub r _ (fun y hy => h y (List.mem_cons_of_mem _ hy)) ha e
theorem clOf_acc {env : Env} {x : Str} : ∀ (names : List (Str × NameKind)) (acc : List (Str × Addr)), (∃ c, acc.lookup x = some c) → ∃ c, (clOf env names acc).lookup x = some c
  | [], acc, h => h
  | (n, k) :: r, acc, h => by
    unfold clOf
    split
    · refine clOf_acc r _ ?_
      rw [List.lookup_cons]
      split
      · exact ⟨_, rfl⟩
      · exact h
    · exact clOf_acc r _ h
theorem clOf_has {env : Env} {x : Str} : ∀ (names : List (Str × NameKind)) (acc : List (Str × Addr)), (x, NameKind.free) ∈ names → ∃ c, (clOf env names acc).lookup x = some c
  | [], _, h => nomatch h
  | (n, k) :: r, acc, h => by
    unfold clOf
    rcases List.mem_cons.mp h with z | z
    · cases z
      rw [if_pos rfl]
      refine clOf_acc r _ ?_
      rw [List.lookup_cons]
      simp
    · split
      · exact clOf_has r _ z
      · exact clOf_has r _ z
/-- what stands in the relabelled scope -/
theorem relabel_inv {env : Env} : ∀ {names : List (Str × NameKind)} {x : Str} {k : NameKind}, (names.map fun (n, k) => if (k == NameKind.free && env.scope.kind == .function && env.kindOf n == some .cell) then (n, NameKind.cell) else (n, k)).lookup x = some k →
    ∃ k', names.lookup x = some k' ∧ (k = k' ∨ (k' = .free ∧ k = .cell))
  | [], _, _, h => by simp at h
  | (n, k0) :: r, x, k, h => by
    have h' : List.lookup x ((if (k0 == NameKind.free && env.scope.kind == .function && env.kindOf n == some .cell) = true then (n, NameKind.cell) else (n, k0)) :: (r.map fun (n, k) => if (k == NameKind.free && env.scope.kind == .function && env.kindOf n == some .cell) then (n, NameKind.cell) else (n, k))) = some k := h
    rw [List.lookup_cons]
    by_cases hc : (k0 == NameKind.free && env.scope.kind == .function && env.kindOf n == some .cell) = true
    · rw [if_pos hc, List.lookup_cons] at h'
      split at h'
      · rename_i hx
        cases h'
        refine ⟨k0, rfl, .inr ⟨?_, rfl⟩⟩
        simp only [Bool.and_eq_true, beq_iff_eq] at hc
        exact hc.1.1
      · rename_i hx
        exact relabel_inv h'
    · rw [if_neg hc, List.lookup_cons] at h'
      split at h'
      · rename_i hx
        cases h'
        exact ⟨k0, rfl, .inl rfl⟩
      · rename_i hx
        exact relabel_inv h'
theorem relabel_free {env : Env} : ∀ {names : List (Str × NameKind)} {x : Str}, names.lookup x = some .free →
    let l := (names.map fun (n, k) => if (k == NameKind.free && env.scope.kind == .function && env.kindOf n == some .cell) then (n, NameKind.cell) else (n, k)); l.lookup x = some .cell ∨ l.lookup x = some .free
  | [], _, h => by simp at h
  | (n, k0) :: r, x, h => by
    show List.lookup x ((if (k0 == NameKind.free && env.scope.kind == .function && env.kindOf n == some .cell) = true then (n, NameKind.cell) else (n, k0)) :: _) = _ ∨ List.lookup x ((if (k0 == NameKind.free && env.scope.kind == .function && env.kindOf n == some .cell) = true then (n, NameKind.cell) else (n, k0)) :: _) = _
    rw [List.lookup_cons] at h
    cases hx : x == n with
    | true =>
      rw [hx] at h
      cases h
      split
      · left; rw [List.lookup_cons, hx]
      · right; rw [List.lookup_cons, hx]
    | false =>
      rw [hx] at h
      have ih := relabel_free (env := env) h
      split
      · rw [List.lookup_cons, hx]; exact ih
      · rw [List.lookup_cons, hx]; exact ih

def cxC (X : Cx) (N' : List Str) (scope : Scope) (C : Addr) (fp : List Addr) (s : Shared) (H : Hp) : Cx where
  prog := X.prog
  w := X.w
  K := X.K
  mg := X.mg
  base := X.base
  A := X.A
  N := N'
  s₀ := s
  H₀ := H
  env := compEnvC scope (clOf X.env scope.names []) C X.env
  outer := X.stack
  stack := X.stack
  ex := fp
  fn := fun _ => false
  calm := X.calm
  pn := []
  xe := fun _ _ => False
/-- what is asked of a comprehension's scope: all by looking -/
structure CmpOk (X : Cx) (N' : List Str) (cap : List Nat) (scope : Scope) : Prop where
  kind : scope.kind = .function
  nc : ∀ y ∈ scope.names, y.2 ≠ .cell
  nm : ∀ y ∈ scope.names, y.2 = .local → scope.names.lookup y.1 = some .local
  fr : ∀ y ∈ scope.names, y.2 = .free → X.env.kindOf y.1 = some .cell ∨ X.env.kindOf y.1 = some .free
  capt : ∀ (i j : Nat), cap[i]? = some j → ∃ x, N'[i]? = some x ∧ X.N[j]? = some x ∧ scope.names.lookup x = some .free
  len : cap.length ≤ N'.length
/-- the block's slots at a turn's start -/
def sigC (cap : List Nat) (n : Nat) (σ : St) : St := (cap.map fun j => (σ[j]?).getD none) ++ List.replicate (n - cap.length) none

section
variable {X : Cx} {pins : List (Addr × Obj)} {σ : St} {H : Hp} {s : Shared} {N' : List Str} {cap : List Nat} {scope : Scope} {fp : List Addr}
theorem CmpOk.hasc (o : CmpOk X N' cap scope) (ok : X.Ok) : ∀ y ∈ scope.names, y.2 = .free → ∃ c, X.env.cells.lookup y.1 = some c := fun y hy e => ok.has y.1 (o.fr y hy e)
theorem CmpOk.sub (o : CmpOk X N' cap scope) (ok : X.Ok) {x : Str} {c : Addr} (e : (clOf X.env scope.names []).lookup x = some c) : X.env.cells.lookup x = some c := clOf_sub scope.names [] (o.hasc ok) (fun _ z => by simp at z) e
/-- the block begins: s the state with the new list laid, s' the state with the block's names -/
theorem inv_comp (o : CmpOk X N' cap scope) (I : Inv X pins σ H s) (hfp : ∀ b ∈ fp, FpOk X pins H b) (hlt : ∀ b ∈ fp, b < s.heap.objs.size) {h' : Heap} {t' : Nat} (ns : h'.Ns s.heap.objs.size (fun _ => none)) (kp : ∀ b u, s.heap.get? b = some u → h'.get? b = some u) :
    Inv (cxC X N' scope s.heap.objs.size fp s H) [] (sigC cap N'.length σ) H { s with heap := h', toks := t' } := by
  have hf : H s.heap.objs.size = none := I.hok.fresh (Nat.le_refl _)
  have nofp : ∀ b ∈ fp, b ∉ frs X.stack := fun b hb z => by
    obtain ⟨f0, f1, f2, f3, f4, f5⟩ := hfp b hb
    rcases List.mem_cons.mp (I.stkSub b z) with q | q
    · exact f1 q
    · exact f2 q
  have ok' : (cxC X N' scope s.heap.objs.size fp s H).Ok := by
    refine ⟨I.ok.mod, o.kind, I.ok.glob, I.ok.blt, Nat.le_refl _, fun x y c e1 e2 => I.ok.inj x y c (o.sub I.ok e1) (o.sub I.ok e2), fun x hx => ?_, fun x c z => (by cases z), I.ok.hd, I.ok.frames, .inl rfl, fun b hb => ⟨Nat.ne_of_lt (hlt b hb), fun x c e => (hfp b hb).2.2.2.2.1 x c (o.sub I.ok e)⟩,
      fun b ob e => I.bs b ob e, Nat.le_trans I.ok.bsz I.sz, fun b ob e hb => ?_, nofp, I.stack, I.stkFree⟩
    · have key : scope.names.lookup x = some .free := by
        rcases hx with hx | hx
        · obtain ⟨k', e1, e2⟩ := relabel_inv (env := X.env) (names := scope.names) (x := x) (k := .cell) hx
          rcases e2 with e2 | e2
          · subst e2; exact absurd rfl (o.nc _ (PySem.mem_of_lookup e1))
          · rw [e2.1] at e1; exact e1
        · obtain ⟨k', e1, e2⟩ := relabel_inv (env := X.env) (names := scope.names) (x := x) (k := .free) hx
          rcases e2 with e2 | e2
          · subst e2; exact e1
          · exact absurd e2.2 (by decide)
      exact clOf_has scope.names [] (PySem.mem_of_lookup key)
    · rcases (hfp b hb).2.2.2.1 with z | z
      · exact I.ok.noex b ob e z
      · exact absurd (Nat.lt_of_lt_of_le (Nat.lt_of_lt_of_le (Heap.lt_size e) I.ok.bsz) z) (Nat.lt_irrefl _)
  refine ⟨ok', rfl, I.bare, Un.kept kp, ⟨fun _ => none, ns, fun i x v hN hs hv => ?_⟩, fun x c e => ?_, hf, fun x c e => I.freeC x c (o.sub I.ok e), fun p hp => ?_, I.hok.kept kp, ?_⟩
  · have hN : N'[i]? = some x := hN
    by_cases hi : i < cap.length
    · unfold sigC at hs
      rw [List.getElem?_append_left (by simpa using hi), List.getElem?_map] at hs
      obtain ⟨j, hj⟩ : ∃ j, cap[i]? = some j := ⟨cap[i], by simp [hi]⟩
      rw [hj] at hs
      have hs' : σ[j]? = some (some v) := by
        have hs'' : (σ[j]?).getD none = some v := Option.some.inj hs
        cases e : σ[j]? with
        | none => rw [e] at hs''; cases hs''
        | some y => rw [e] at hs''; have : y = some v := hs''; rw [this]
      obtain ⟨x', e1, e2, e3⟩ := o.capt i j hj
      rw [hN] at e1; cases e1
      have hk := o.fr (x, .free) (PySem.mem_of_lookup e3) rfl
      obtain ⟨m, hn, hl⟩ := I.loc
      have hvis : Vis X.env.scope x := hk.elim (fun z => .inr (.inl z)) fun z => .inr (.inr z)
      obtain ⟨u, r, lk⟩ := hl j x v e2 hs' hvis
      refine ⟨u, r, .inr ⟨relabel_free (env := X.env) e3, ?_⟩⟩
      rcases lk with ⟨z, _⟩ | ⟨_, c, hc, hcell⟩
      · have z' : X.env.kindOf x = some .local := z
        rw [z'] at hk
        rcases hk with hk | hk <;> cases hk
      · obtain ⟨c', hc'⟩ := clOf_has (env := X.env) scope.names [] (PySem.mem_of_lookup e3)
        have hcc := o.sub I.ok hc'
        rw [hc] at hcc; cases hcc
        obtain ⟨ob, q1, q2⟩ := hcell
        exact ⟨c, hc', ob, kp _ _ q1, q2⟩
    · unfold sigC at hs
      rw [List.getElem?_append_right (by simpa using Nat.le_of_not_lt hi), List.getElem?_replicate] at hs
      split at hs <;> cases hs
  · obtain ⟨v, ob, q1, q2⟩ := I.cell x c (o.sub I.ok e)
    exact ⟨v, ob, kp _ _ q1, q2⟩
  · exact absurd (show p ∈ ([] : List (Addr × Obj)) from hp) (by simp)
  · unfold sigC
    show _ = N'.length
    rw [List.length_append, List.length_map, List.length_replicate]
    have := o.len
    omega
/-- the block ends -/
theorem inv_comp_end {H2 : Hp} {σ2 : St} {s2 : Shared} {h' : Heap} (I : Inv X pins σ H s) (hfp : ∀ b ∈ fp, FpOk X pins H b) (J : Inv (cxC X N' scope s.heap.objs.size fp s H) [] σ2 H2 s2) (sb : Heap.SameBut s.heap.objs.size s2.heap h') : Inv X pins σ H2 { s2 with heap := h' } := by
  have hb : Un (frs X.stack) fp H H2 s.heap s2.heap := J.base
  have ne : ∀ b o, s.heap.get? b = some o → b ≠ s.heap.objs.size := fun b o e => Nat.ne_of_lt (Heap.lt_size e)
  have fr : H2 s.heap.objs.size = none := J.free
  refine I.call' (s' := { s2 with heap := h' }) (ch := fp) J.os ?_ ?_ J.bare fun b hb => ⟨(hfp b hb).2.2.2.1, (hfp b hb).2.1, (hfp b hb).2.2.2.2.1, (hfp b hb).2.2.2.2.2⟩
  · refine ⟨fun b o e n h1 h2 => ?_, fun b o e n h1 h2 => ?_, fun b o e n h2 => hb.free b o e n h2, fun b o e h2 => ?_, hb.tups, hb.frzs, hb.tbls⟩
    · exact sb.extBut b o (ne b o e) (hb.keep b o e n h1 h2)
    · obtain ⟨sl, q⟩ := hb.slot b o e n h1 h2
      exact ⟨sl, sb.extBut b _ (ne b o e) q⟩
    · obtain ⟨o', q⟩ := hb.there b o e h2
      exact ⟨o', sb.extBut b _ (ne b o e) q⟩
  · intro b u e
    have nb : ∀ c w, H2 c = some w → c ≠ s.heap.objs.size := fun c w q z => by rw [z, fr] at q; cases q
    refine (J.hok b u e).stay (fun c v hc q => sb.extBut c v ?_ q) (fun _ q => q) fun _ _ q => q
    rcases hc with z | z
    · rw [z]; exact nb b u e
    · exact nb c _ z

/-- one turn's reading: the test, then the element -/
def tComp1 (tc : Option TT) (te : TE) (K1 : V → Hp → Prop) (K0 : Hp → Prop) : St → Hp → Prop := fun σ H => match tc with
  | none => te σ H K1
  | some c => c σ H fun b H1 => if b = true then te σ H1 K1 else K0 H1
def tComp (cap : List Nat) (n : Nat) (wi : TI) (g : TG) (tc : Option TT) (te : TE) : TE := fun σ H Q => wi σ H fun J H1 => ∀ p, H1 p = none → ∃ W : Nat → Nat → List V → St → Hp → Prop, (∃ m, W 0 m [] (sigC cap n σ) (upd H1 p (.lst []))) ∧ ∀ i m ys σ2 H2, W i m ys σ2 H2 → H2 p = some (.lst ys) ∧ ys.length < sizeLine ∧
  ((J.stop i H2 ∧ Q (.ref p) H2) ∨ (J.go i H2 ∧ ∀ x H3, J.yld i H2 x H3 → g x σ2 H3 fun σ4 H4 => tComp1 tc te (fun y H5 => H5 p = some (.lst ys) ∧ ∃ m', m' < m ∧ W (i + 1) m' (ys ++ [y]) σ4 (upd H5 p (.lst (ys ++ [y])))) (fun H5 => ∃ m', m' < m ∧ W (i + 1) m' ys σ4 H5) σ4 H4))

theorem compLoop_go {prog : Program} {w : World} {A : Around} {Z : Result → Shared → Prop} {t0 : Shared} {elt tgt src : Expr} {tests : List Expr} {scope : Scope} {pos : Pos} {it out : Value} {env : Env} (W : Nat → Shared → Prop)
    (each : ∀ k t, W k t → wpAny (model prog w) A (pyNext it) (fun got t1 => match got with
      | none => Z (.ok .next) t1
      | some y => wpAny (model prog w) A (letOwnedTupleGo tgt it y) (fun _ t2 => wpAny (model prog w) A (assign tgt env y) (fun _ t3 =>
          wpAny (model prog w) A (forIn tests true fun c b => if b = true then do let ok ← isTrue c env (eval c env); pure (ForInStep.yield ok) else pure (ForInStep.yield b)) (fun good t4 =>
            if good = true then wpAny (model prog w) A (eval elt env) (fun x t5 =>
              wpAny (model prog w) A (call (.builtin "list.append") [out, x]) (fun _ t6 => ∃ j, j < k ∧ W j t6) (fun _ _ => False) t5) (fun _ _ => False) t4
            else ∃ j, j < k ∧ W j t4) (fun _ _ => False) t3) (fun _ _ => False) t2) (fun _ _ => False) t1) (fun _ _ => False) t)
    (k : Nat) (h0 : W k t0) : codeAny (model prog w) A (.compLoop (.ListComp elt [⟨tgt, src, tests, 0⟩] scope pos) 0 it out env) Z t0 := by
  refine codeAny_loop rfl W (fun k t hW => ?_) k h0
  show wpAny _ A ((compTurn (.ListComp elt [⟨tgt, src, tests, 0⟩] scope pos) 0 it out env).onRaise (fun x => do noteFrame x env; theTreesLotGoes x)) _ _ t
  refine wpAny_noted ?_
  rw [compTurn_list]
  refine wpAny_bind (wpAny_standAt (wpAny_bind (wpAny_mono (each k t hW) (fun got t1 g1 => ?_) fun _ _ no => no.elim)))
  cases got with
  | none => exact wpAny_pure g1
  | some y =>
    refine wpAny_bind (wpAny_mono g1 (fun _ t2 g2 => wpAny_bind (wpAny_mono g2 (fun _ t3 g3 => wpAny_bind (wpAny_mono g3 (fun good t4 g4 => ?_) fun _ _ no => no.elim)) fun _ _ no => no.elim)) fun _ _ no => no.elim)
    cases good with
    | false => exact wpAny_pure ⟨rfl, g4⟩
    | true =>
      exact wpAny_bind (wpAny_bind (wpAny_mono g4 (fun x t5 g5 => wpAny_bind (wpAny_mono g5 (fun _ t6 g6 => wpAny_pure (wpAny_pure ⟨rfl, g6⟩)) fun _ _ no => no.elim)) fun _ _ no => no.elim))

/-- all but the end: RR is what is wanted behind the block, told of every state that the block may end in -/
theorem comp_core {elt tg iter : Expr} {ifs : List Expr} {pos : Pos} {g : TG} {tc : Option TT} {te : TE} {J : It} {it : Addr} {tn : Nat → Heap → Prop} {Q : VK} {RR : Value → Addr → Result → Shared → Prop} (hc : X.calm = true) (o : CmpOk X N' cap scope)
    (hg : ∀ C fp s H, PG (cxC X N' scope C fp s H) tg g) (ht : match (generalizing := false) tc with | none => ifs = [] | some c => ∃ e, ifs = [e] ∧ ∀ C fp s H, PT (cxC X N' scope C fp s H) e c) (he : ∀ C fp s H, PE (cxC X N' scope C fp s H) elt te)
    (I : Inv X pins σ H s) (T : Turn X.prog X.w X.K tg J fp it tn) (st : tn 0 s.heap) (hfp : ∀ b ∈ fp, FpOk X pins H b)
    (hw : ∀ p, H p = none → ∃ W : Nat → Nat → List V → St → Hp → Prop, (∃ m, W 0 m [] (sigC cap N'.length σ) (upd H p (.lst []))) ∧ ∀ i m ys σ2 H2, W i m ys σ2 H2 → H2 p = some (.lst ys) ∧ ys.length < sizeLine ∧
      ((J.stop i H2 ∧ Q (.ref p) H2) ∨ (J.go i H2 ∧ ∀ x H3, J.yld i H2 x H3 → g x σ2 H3 fun σ4 H4 => tComp1 tc te (fun y H5 => H5 p = some (.lst ys) ∧ ∃ m', m' < m ∧ W (i + 1) m' (ys ++ [y]) σ4 (upd H5 p (.lst (ys ++ [y])))) (fun H5 => ∃ m', m' < m ∧ W (i + 1) m' ys σ4 H5) σ4 H4)))
    (hRR : ∀ (p : Addr) (s3 s' : Shared) (H3 H2 : Hp) (σ2 : St), Inv X pins σ H3 s3 → (∀ b ∈ fp, FpOk X pins H3 b) → Inv (cxC X N' scope s3.heap.objs.size fp s3 H3) [] σ2 H2 s' → Q (.ref p) H2 → RR (.ref p) s3.heap.objs.size (.ok .next) s') :
    wpAny (model X.prog X.w) X.A (newList []) (fun acc s₃ => wpAny (model X.prog X.w) X.A (newFunctionEnv scope X.env.globals (clOf X.env scope.names []) [] X.env.qual none .none (some X.env)) (fun cenv s₄ =>
      codeAny (model X.prog X.w) X.A (.compStart (.ListComp elt [⟨tg, iter, ifs, 0⟩] scope pos) 0 (.ref it) acc { cenv with scope := relabel scope X.env }) (RR acc cenv.locals) s₄) X.xe s₃) X.xe s := by
  refine wpAny_newObj_type ?_
  obtain ⟨W, ⟨m0, w0⟩, turn⟩ := hw s.heap.objs.size (I.hok.fresh (Nat.le_refl _))
  have nfp : ∀ b ∈ fp, b < s.heap.objs.size := fun b hb => by
    obtain ⟨ob, e, _⟩ := T.obj 0 _ st b hb
    exact Heap.lt_size e
  have I3 := I.lnew (its := []) (ys := []) (t' := s.toks) .nil (Nat.zero_le _)
  generalize hs3 : ({ s with heap := s.heap.push { cls := .type "list", data := .seq ([] : List Value).toArray }, toks := s.toks } : Shared) = s3 at I3
  have hs3' : ({ s with heap := s.heap.push { cls := .type "list", dict := none, data := .seq ([] : List Value).toArray } } : Shared) = s3 := hs3
  have hf3 : ∀ b ∈ fp, FpOk X pins (upd H s.heap.objs.size (.lst [])) b := fun b hb => ⟨by rw [upd_ne (Nat.ne_of_lt (nfp b hb))]; exact (hfp b hb).1, (hfp b hb).2⟩
  have st3 : tn 0 s3.heap := T.keep 0 _ _ st fun b _ ob e => by rw [← hs3]; exact Heap.get?_push_of_some _ e
  have nfp3 : ∀ b ∈ fp, b < s3.heap.objs.size := fun b hb => by
    obtain ⟨ob, e, _⟩ := T.obj 0 _ st3 b hb
    exact Heap.lt_size e
  refine wpAny_newFunctionEnv o.nc (by intro y hy; simp at hy) (fun h₁ hns₁ hsb₁ => ?_) o.kind
  have old : ∀ b ob, s3.heap.get? b = some ob → h₁.get? b = some ob := fun b ob e => hsb₁.extBut b ob (Nat.ne_of_lt (Heap.lt_size e)) (Heap.get?_push_of_some _ e)
  have I4 := inv_comp (t' := s3.toks + ([] : List (Str × Value)).length) o I3 hf3 nfp3 (by simpa using hns₁) old
  have st4 : tn 0 h₁ := T.keep 0 _ _ st3 fun b _ ob e => old b ob e
  have fpC : ∀ H', (∀ b ∈ fp, H' b = none) → ∀ b ∈ fp, FpOk (cxC X N' scope s3.heap.objs.size fp s3 (upd H s.heap.objs.size (.lst []))) [] H' b := fun H' hn b hb => by
    refine ⟨hn b hb, Nat.ne_of_lt (nfp3 b hb), I4.ok.exfs b hb, .inl hb, (I4.ok.exf b hb).2, fun p hp => absurd (show p ∈ ([] : List (Addr × Obj)) from hp) (by simp)⟩
  have loop : codeAny (model X.prog X.w) X.A (.compLoop (.ListComp elt [⟨tg, iter, ifs, 0⟩] scope pos) 0 (.ref it) (.ref s.heap.objs.size) (compEnvC scope (clOf X.env scope.names []) s3.heap.objs.size X.env)) (RR (.ref s.heap.objs.size) s3.heap.objs.size) { s3 with heap := h₁, toks := s3.toks + ([] : List (Str × Value)).length } := by
    refine compLoop_go (fun n s' => ∃ i ys σ' H', Inv (cxC X N' scope s3.heap.objs.size fp s3 (upd H s.heap.objs.size (.lst []))) [] σ' H' s' ∧ tn i s'.heap ∧ (∀ b ∈ fp, H' b = none) ∧ W i n ys σ' H') ?_ m0 ⟨0, [], _, _, I4, st4, fun b hb => (hf3 b hb).1, w0⟩
    rintro n s5 ⟨i, ys, σ5, H5, I5, st5, fr5, w5⟩
    obtain ⟨hp5, hz5, br⟩ := turn i n ys σ5 H5 w5
    rcases br with ⟨stop, q⟩ | ⟨go, step⟩
    · refine thn (T.done (cxC X N' scope s3.heap.objs.size fp s3 (upd H s.heap.objs.size (.lst []))) rfl rfl rfl hc i [] s5 _ H5 (fun _ _ => False) I5 (fpC H5 fr5) st5 stop) fun r s6 ⟨hr, I6⟩ => ?_
      subst hr
      exact hRR _ s3 s6 _ H5 _ I3 hf3 I6 q
    · refine thn (T.item (cxC X N' scope s3.heap.objs.size fp s3 (upd H s.heap.objs.size (.lst []))) rfl rfl rfl hc i [] s5 _ H5 (fun _ _ => False) I5 (fpC H5 fr5) st5 go) fun r s6 ⟨u, hr, h6⟩ => ?_
      subst hr
      refine thn h6 fun _ s7 ⟨x, H7, I7, r7, y7, st7, fr7⟩ => ?_
      have I7' := I7.pinned (fpC H7 fr7) (T.obj _ _ st7)
      refine thn (hg _ _ _ _ _ s7 _ H7 x u _ I7' r7 (step x H7 y7)) fun _ s8 ⟨σ8, H8, I8, q8⟩ => ?_
      have again : ∀ {H9 : Hp} {σ9 : St} {s9 : Shared} {ys' : List V}, Inv (cxC X N' scope s3.heap.objs.size fp s3 (upd H s.heap.objs.size (.lst []))) ([] ++ pinsAt fp s7.heap) σ9 H9 s9 → (∃ m', m' < n ∧ W (i + 1) m' ys' σ9 H9) →
          ∃ m, m < n ∧ ∃ i ys σ' H', Inv (cxC X N' scope s3.heap.objs.size fp s3 (upd H s.heap.objs.size (.lst []))) [] σ' H' s9 ∧ tn i s9.heap ∧ (∀ b ∈ fp, H' b = none) ∧ W i m ys σ' H' := fun {H9 σ9 s9 ys'} I9 z => by
        obtain ⟨m', hm, w9⟩ := z
        refine ⟨m', hm, i + 1, ys', σ9, H9, I9.unpinned, T.keep _ _ _ st7 fun b hb ob e => (I9.pin (b, ob) (List.mem_append_right _ (List.mem_append_right _ (mem_pinsAt hb e)))).1, fun b hb => ?_, w9⟩
        obtain ⟨ob, e, d⟩ := T.obj _ _ st7 b hb
        exact (I9.pin (b, ob) (List.mem_append_right _ (List.mem_append_right _ (mem_pinsAt hb e)))).2.1
      have app : ∀ {s9 : Shared} {H9 : Hp} {y : V} {u9 : Value}, Inv (cxC X N' scope s3.heap.objs.size fp s3 (upd H s.heap.objs.size (.lst []))) ([] ++ pinsAt fp s7.heap) σ8 H9 s9 → RelV y u9 → (H9 s.heap.objs.size = some (.lst ys) ∧ ∃ m', m' < n ∧ W (i + 1) m' (ys ++ [y]) σ8 (upd H9 s.heap.objs.size (.lst (ys ++ [y])))) →
          wpAny (model X.prog X.w) X.A (call (.builtin "list.append") [.ref s.heap.objs.size, u9]) (fun _ s₅ => ∃ m, m < n ∧ ∃ i ys σ' H', Inv (cxC X N' scope s3.heap.objs.size fp s3 (upd H s.heap.objs.size (.lst []))) [] σ' H' s₅ ∧ tn i s₅.heap ∧ (∀ b ∈ fp, H' b = none) ∧ W i m ys σ' H') (fun _ _ => False) s9 := fun {s9 H9 y u9} I9 r9 z9 => by
        refine thn (mt_append (X := cxC X N' scope s3.heap.objs.size fp s3 (upd H s.heap.objs.size (.lst []))) _ s9 σ8 H9 (.ref s.heap.objs.size) [y] (.ref s.heap.objs.size) [u9] (fun _ H' => ∃ m', m' < n ∧ W (i + 1) m' (ys ++ [y]) σ8 H') I9 rfl (.cons r9 .nil) ⟨_, ys, y, rfl, rfl, z9.1, hz5, z9.2⟩) fun _ s10 ⟨_, H10, I10, _, z10⟩ => ?_
        exact again I10 z10
      cases tc with
      | none =>
        have hi : ifs = [] := ht
        subst hi
        refine wpAny_tests_nil ?_
        rw [if_pos rfl]
        exact thn (he _ _ _ _ _ s8 σ8 H8 _ I8 q8) fun u9 s9 ⟨y, H9, I9, r9, z9⟩ => app I9 r9 z9
      | some c =>
        obtain ⟨e, he1, hce⟩ := ht
        subst he1
        refine wpAny_tests_one (thn (hce _ _ _ _ _ s8 σ8 H8 _ I8 q8) fun b s9 ⟨H9, I9, q9⟩ => ?_)
        cases b with
        | false =>
          rw [if_neg Bool.false_ne_true] at q9 ⊢
          exact again I9 q9
        | true =>
          rw [if_pos rfl] at q9 ⊢
          exact thn (he _ _ _ _ _ s9 σ8 H9 _ I9 q9) fun u10 s10 ⟨y, H10, I10, r10, z10⟩ => app I10 r10 z10
  exact codeAny_compStart_list loop (T.self X.A 0 _ _ _ st4 loop)
end

section
variable {X : Cx} {N' : List Str} {cap : List Nat} {scope : Scope} {elt tg iter : Expr} {ifs : List Expr} {pos : Pos} {wi : TI} {g : TG} {tc : Option TT} {te : TE}
theorem pe_lcomp (hc : X.calm = true) (o : CmpOk X N' cap scope) (hi : PI X tg iter wi)
    (hg : ∀ C fp s H, PG (cxC X N' scope C fp s H) tg g) (ht : match (generalizing := false) tc with | none => ifs = [] | some c => ∃ e, ifs = [e] ∧ ∀ C fp s H, PT (cxC X N' scope C fp s H) e c) (he : ∀ C fp s H, PE (cxC X N' scope C fp s H) elt te)
    (hs : ∀ x, foldedSetIterable iter X.env x = pure x := by intro _; rfl) : PE X (.ListComp elt [⟨tg, iter, ifs, 0⟩] scope pos) (tComp cap N'.length wi g tc te) := by
  intro pins s σ H Q I h
  rw [eval_ListComp]
  refine wpAny_comprehension_free (use := none) rfl hs (closureFor_eq (o.hasc I.ok)) o.kind o.nm (thn (hi pins s σ H _ I h) fun xv s1 h1 => thn h1 fun itv s2 h2 => ?_)
  obtain ⟨it, fp, tn, J, H2, rfl, I2, T, st2, f2, hw⟩ := h2
  refine comp_core (Q := Q) hc o hg ht he I2 T st2 f2 hw ?_
  intro p s3 s' H3 H4 σ4 I3 f3 J4 q
  obtain ⟨m, hn, _⟩ := J4.loc
  exact ⟨m, hn, fun h' sb => ⟨.ref p, H4, inv_comp_end I3 f3 J4 sb, rfl, q⟩⟩
/-- x = [..] -/
theorem ps_lcomp {i : Nat} {y : Str} {py spos : Pos} (hc : X.calm = true) (o : CmpOk X N' cap scope) (hi : PI X tg iter wi)
    (hg : ∀ C fp s H, PG (cxC X N' scope C fp s H) tg g) (ht : match (generalizing := false) tc with | none => ifs = [] | some c => ∃ e, ifs = [e] ∧ ∀ C fp s H, PT (cxC X N' scope C fp s H) e c) (he : ∀ C fp s H, PE (cxC X N' scope C fp s H) elt te)
    (hN : X.N.Nodup) (hy : X.N[i]? = some y) (hx : Loc X.env.scope y) (hf : X.fn y = true ∨ X.env.scope.names.lookup y = some .local)
    (hsw : swapsWith (.ListComp elt [⟨tg, iter, ifs, 0⟩] scope pos) (some (.Name y py)) spos.line X.env = pure true)
    (hs : ∀ x, foldedSetIterable iter X.env x = pure x := by intro _; rfl) : PS X (.Assign [.Name y py] (.ListComp elt [⟨tg, iter, ifs, 0⟩] scope pos) spos) (tAsg (tComp cap N'.length wi g tc te) (gName i)) := by
  intro pins s σ H D I h
  rw [exec_Assign_Name_used _ _ _ _ hsw]; refine wpAny_bind (wpAny_standAt (wpAny_bind ?_))
  show wpAny _ X.A (do let _ ← comprehension (.ListComp elt [⟨tg, iter, ifs, 0⟩] scope pos) scope X.env _ (newList []) false (eval iter X.env) (some (assign (.Name y py) X.env))) _ _ s
  refine wpAny_bind (wpAny_mono (wpAny_comprehension_free (use := some (assign (.Name y py) X.env)) (Q := fun _ s' => SP X pins D .next s') rfl hs (closureFor_eq (o.hasc I.ok)) o.kind o.nm
    (thn (hi pins s σ H _ I h) fun xv s1 h1 => thn h1 fun itv s2 h2 => ?_)) (fun _ s' hq => wpAny_pure (wpAny_pure hq)) fun _ _ e => e)
  obtain ⟨it, fp, tn, J, H2, rfl, I2, T, st2, f2, hw⟩ := h2
  refine comp_core (Q := fun v H1 => gName i v σ H1 D.nx) hc o hg ht he I2 T st2 f2 hw ?_
  intro p s3 s' H3 H4 σ4 I3 f3 J4 q
  obtain ⟨m, hn, _⟩ := J4.loc
  have I5 : Inv X pins σ H4 s' := inv_comp_end I3 f3 J4 (Heap.SameBut.refl _ _)
  have fc : FpOk X pins H4 s3.heap.objs.size := I3.fpOk (Nat.le_refl _) J4.free
  show wpAny _ X.A (assign (.Name y py) X.env (.ref p)) _ _ _
  refine wpAny_assign_Name (store_ok2 (v := .ref p) I5 hN hy hx rfl (fun s6 I6 ⟨a, sb, ha⟩ => ?_) hf)
  have hne : s3.heap.objs.size ≠ a := by
    rcases ha with ha | ha
    · rw [ha]; exact fc.2.1
    · exact fun z => fc.2.2.2.2.1 y a ha z.symm
  refine ⟨m, hn.sameBut sb hne, fun h' sb' => ⟨_, H4, ?_, q⟩⟩
  exact I6.turned (t' := s6.toks) (it := s3.heap.objs.size) (fun b ob hb e => sb'.extBut b ob hb e) fc.1 fc.2.1 fc.2.2.2.1 fc.2.2.2.2.1 fc.2.2.2.2.2
end
end DD
namespace DD
open PySem PySem.Spec PyProof.Rows L2

/-! ### workings -/
def addD : D → D → Option D
  | .int i, .int j => some (.int (i + j))
  | .str s, .str t => if s.length + t.length ≤ sizeLine then some (.str (s ++ t)) else none
  | .lst l, .lst m => if l.length + m.length ≤ sizeLine then some (.lst (l ++ m)) else none
  | .tup l, .tup m => if l.length + m.length ≤ sizeLine ∧ l.isEmpty = false ∧ m.isEmpty = false then some (.tup (l ++ m)) else none
  | _, _ => none
def subD : D → D → Option D
  | .int i, .int j => some (.int (i - j))
  | _, _ => none
def mulD : D → D → Option D
  | .int i, .int j => if (-(2 ^ 64) < i ∧ i < 2 ^ 64) ∨ (-(2 ^ 64) < j ∧ j < 2 ^ 64) then some (.int (i * j)) else none
  | _, _ => none
def fdivD : D → D → Option D
  | .int i, .int j => if 0 < j ∧ j < 1073741824 then some (.int (i / j)) else none
  | _, _ => none
def modD : D → D → Option D
  | .int i, .int j => if 0 < j then some (.int (i % j)) else none
  | _, _ => none
def powD : D → D → Option D
  | .int i, .int j => if 0 ≤ j ∧ j ≤ 1000000 ∧ i.natAbs < 2 ^ 64 then some (.int (i ^ j.toNat)) else none
  | _, _ => none
def negD : D → Option D
  | .int i => some (.int (-i))
  | _ => none
def ltD : D → D → Option D
  | .int i, .int j => some (.bl (decide (i < j)))
  | _, _ => none
def leD : D → D → Option D
  | .int i, .int j => some (.bl (decide (i ≤ j)))
  | _, _ => none
def gtD : D → D → Option D
  | .int i, .int j => some (.bl (decide (j < i)))
  | _, _ => none
def geD : D → D → Option D
  | .int i, .int j => some (.bl (decide (j ≤ i)))
  | _, _ => none
def eqS : D → D → Option Bool
  | .int i, .int j => some (decide (i = j))
  | .str s, .str t => some (decide (s = t))
  | .bl a, .bl b => some (decide (a = b))
  | .non, .non => some true
  | .non, .int _ => some false
  | .int _, .non => some false
  | .non, .str _ => some false
  | .str _, .non => some false
  | .int _, .str _ => some false
  | .str _, .int _ => some false
  | _, _ => none
def eqD (x y : D) : Option D := (eqS x y).map .bl
def neD (x y : D) : Option D := (eqS x y).map fun b => .bl !b
def isND (x y : D) : Option D := match y with
  | .non => match x with
    | .non => some (.bl true)
    | _ => some (.bl false)
  | _ => none
def notND (x y : D) : Option D := match y with
  | .non => match x with
    | .non => some (.bl false)
    | _ => some (.bl true)
  | _ => none

section
variable {X : Cx}
def rCatR (K : PySem.W.Frag) : R2 := fun x y H Q => ∃ l b xs zs, x = .ref l ∧ y = .ref b ∧ SqL K H l xs ∧ SqL K H b zs ∧ xs.length + zs.length ≤ sizeLine ∧ ∀ p, H p = none → Q (.ref p) (upd H p (.lst (xs ++ zs)))
theorem op_catR : OpR X (binaryOp .Add) (rCatR X.K) := by
  intro pins s σ H x y v u Q I rx ry h
  obtain ⟨l, b, xs, zs, rfl, rfl, hH, hB, hz, q⟩ := h
  cases rx
  cases ry
  obtain ⟨its, r, ⟨⟨cls, dd, data, sl⟩, n, e, hc, hd0, hd⟩, z⟩ := I.list hH
  obtain ⟨its2, r2, ⟨⟨cls2, dd2, data2, sl2⟩, n2, e2, hc2, hd02, hd2⟩, z2⟩ := I.list hB
  have hl := r.length
  have hl2 := r2.length
  cases (show cls = _ from hc); cases (show dd = _ from hd0); cases (show data = _ from hd)
  cases (show cls2 = _ from hc2); cases (show dd2 = _ from hd02); cases (show data2 = _ from hd2)
  refine concat_meets ⟨_, e, rfl⟩ ⟨_, e2, rfl⟩ noFill_list_add seq_list_add PySem.F.slot_list_add PySem.F.entry_list_add (PySem.F.args_list_add_2 _ _) (list_addW l b its.toArray its2.toArray n n2 none none sl sl2 (by rw [List.size_toArray, List.size_toArray]; omega)) ⟨e, e2, ?_⟩
  have ea : its.toArray ++ its2.toArray = (its ++ its2).toArray := by simp
  rw [ea]
  exact ⟨.ref _, _, I.lnew (t' := s.toks) (r.append r2) (by rw [List.length_append]; omega), rfl, q _ I.fresh⟩
def rPlus (K : PySem.W.Frag) : R2 := fun x y H Q => rI0 (fun i j => .int (i + j)) x y H Q ∨ (∃ i j, x = .str i ∧ y = .str j ∧ i.length + j.length ≤ sizeLine ∧ Q (.str (i ++ j)) H) ∨ rCatR K x y H Q ∨ rCatT K x y H Q
theorem op_plus : OpR X (binaryOp .Add) (rPlus X.K) := op_add.or (op_add_str.or (op_catR.or op_catT))
theorem str_app (s t : List Nat) : ((⟨s.toArray⟩ : Str) ++ (⟨t.toArray⟩ : Str)) = (⟨(s ++ t).toArray⟩ : Str) := by
  show (⟨s.toArray ++ t.toArray⟩ : Str) = _
  simp
theorem str_len (s : List Nat) : (⟨s.toArray⟩ : Str).length = s.length := by simp [Str.length]
theorem od_plus {K : PySem.W.Frag} : OpD K (rPlus K) addD := by
  intro O H dx dy d vx vy Q ol ix iy e q
  cases dx <;> cases dy <;> first | (simp only [addD, reduceCtorEq] at e; done) | skip
  · simp only [addD, Option.some.injEq] at e
    subst e
    rw [Is.int_iff] at ix iy
    exact .inl ⟨_, _, ix, iy, q _ H (Same.refl H) (by rw [Is.int_iff])⟩
  · rename_i s t
    simp only [addD] at e
    split at e
    · rename_i hl
      cases e
      rw [Is.str_iff] at ix iy
      refine .inr (.inl ⟨_, _, ix, iy, by rw [str_len, str_len]; exact hl, q _ H (Same.refl H) ?_⟩)
      rw [Is.str_iff, str_app]
    · cases e
  · rename_i l m
    simp only [addD] at e
    split at e
    · rename_i hl
      cases e
      rw [Is.tup_iff] at ix iy
      obtain ⟨a, xs, rfl, hs, il⟩ := ix
      obtain ⟨b, ys, rfl, hs2, il2⟩ := iy
      have e1 := il.length
      have e2 := il2.length
      refine .inr (.inr (.inr ⟨a, b, xs, ys, rfl, rfl, hs, hs2, ?_, by omega, fun z => ?_, fun _ p hp => q _ _ (same_upd hp) ?_⟩))
      · rintro rfl
        have : l = [] := by simpa using e1
        subst this
        simp at hl
      · subst z
        have : m = [] := by simpa using e2
        subst this
        simp at hl
      · rw [Is.tup_iff]
        exact ⟨p, _, rfl, SqT.of upd_same, (il.append il2).same (same_upd hp) ol⟩
    · cases e
  · rename_i l m
    simp only [addD] at e
    split at e
    · rename_i hl
      cases e
      rw [Is.lst_iff] at ix iy
      obtain ⟨a, xs, rfl, hs, il⟩ := ix
      obtain ⟨b, ys, rfl, hs2, il2⟩ := iy
      have e1 := il.length
      have e2 := il2.length
      refine .inr (.inr (.inl ⟨a, b, xs, ys, rfl, rfl, hs.sq, hs2.sq, by omega, fun p hp => q _ _ (same_upd hp) ?_⟩))
      rw [Is.lst_iff]
      refine ⟨p, _, rfl, .inl ⟨fun z => ?_, .inl upd_same⟩, (il.append il2).same (same_upd hp) ol⟩
      obtain ⟨zs, ez⟩ := ol p z
      rw [hp] at ez; cases ez
    · cases e
/-- ints alone -/
theorem od_I {K : PySem.W.Frag} {C : Int → Int → Prop} {g : Int → Int → V} {m : D → D → Option D} (h : ∀ dx dy d, m dx dy = some d → ∃ i j, dx = .int i ∧ dy = .int j ∧ C i j ∧ ∀ O H, Is K O H d (g i j)) : OpD K (rI C g) m := by
  intro O H dx dy d vx vy Q ol ix iy e q
  obtain ⟨i, j, rfl, rfl, hc, hd⟩ := h dx dy d e
  rw [Is.int_iff] at ix iy
  exact ⟨i, j, ix, iy, hc, q _ H (Same.refl H) (hd O H)⟩
theorem od_I0 {K : PySem.W.Frag} {g : Int → Int → V} {m : D → D → Option D} (h : ∀ dx dy d, m dx dy = some d → ∃ i j, dx = .int i ∧ dy = .int j ∧ ∀ O H, Is K O H d (g i j)) : OpD K (rI0 g) m := by
  intro O H dx dy d vx vy Q ol ix iy e q
  obtain ⟨i, j, rfl, rfl, hd⟩ := h dx dy d e
  rw [Is.int_iff] at ix iy
  exact ⟨i, j, ix, iy, q _ H (Same.refl H) (hd O H)⟩
theorem od_sub {K : PySem.W.Frag} : OpD K (rI0 fun i j => .int (i - j)) subD := od_I0 fun dx dy d e => by
  cases dx <;> cases dy <;> first | (simp only [subD, reduceCtorEq] at e; done) | skip
  simp only [subD, Option.some.injEq] at e
  subst e
  exact ⟨_, _, rfl, rfl, fun O H => by rw [Is.int_iff]⟩
theorem od_mul {K : PySem.W.Frag} : OpD K (rI CMul fun i j => .int (i * j)) mulD := od_I fun dx dy d e => by
  cases dx <;> cases dy <;> first | (simp only [mulD, reduceCtorEq] at e; done) | skip
  simp only [mulD] at e
  split at e
  · rename_i hc; cases e; exact ⟨_, _, rfl, rfl, hc, fun O H => by rw [Is.int_iff]⟩
  · cases e
theorem od_fdiv {K : PySem.W.Frag} : OpD K (rI CDiv fun i j => .int (i / j)) fdivD := od_I fun dx dy d e => by
  cases dx <;> cases dy <;> first | (simp only [fdivD, reduceCtorEq] at e; done) | skip
  simp only [fdivD] at e
  split at e
  · rename_i hc; cases e; exact ⟨_, _, rfl, rfl, hc, fun O H => by rw [Is.int_iff]⟩
  · cases e
theorem od_mod {K : PySem.W.Frag} : OpD K (rI (fun _ j => 0 < j) fun i j => .int (i % j)) modD := od_I fun dx dy d e => by
  cases dx <;> cases dy <;> first | (simp only [modD, reduceCtorEq] at e; done) | skip
  simp only [modD] at e
  split at e
  · rename_i hc; cases e; exact ⟨_, _, rfl, rfl, hc, fun O H => by rw [Is.int_iff]⟩
  · cases e
theorem od_pow {K : PySem.W.Frag} : OpD K (rI CPow fun i j => .int (i ^ j.toNat)) powD := od_I fun dx dy d e => by
  cases dx <;> cases dy <;> first | (simp only [powD, reduceCtorEq] at e; done) | skip
  simp only [powD] at e
  split at e
  · rename_i hc; cases e; exact ⟨_, _, rfl, rfl, hc, fun O H => by rw [Is.int_iff]⟩
  · cases e
theorem od_lt {K : PySem.W.Frag} : OpD K (rI0 fun i j => .bl (decide (i < j))) ltD := od_I0 fun dx dy d e => by
  cases dx <;> cases dy <;> first | (simp only [ltD, reduceCtorEq] at e; done) | skip
  simp only [ltD, Option.some.injEq] at e
  subst e
  exact ⟨_, _, rfl, rfl, fun O H => by rw [Is.bl_iff]⟩
theorem od_le {K : PySem.W.Frag} : OpD K (rI0 fun i j => .bl (decide (i ≤ j))) leD := od_I0 fun dx dy d e => by
  cases dx <;> cases dy <;> first | (simp only [leD, reduceCtorEq] at e; done) | skip
  simp only [leD, Option.some.injEq] at e
  subst e
  exact ⟨_, _, rfl, rfl, fun O H => by rw [Is.bl_iff]⟩
theorem od_gt {K : PySem.W.Frag} : OpD K (rI0 fun i j => .bl (decide (j < i))) gtD := od_I0 fun dx dy d e => by
  cases dx <;> cases dy <;> first | (simp only [gtD, reduceCtorEq] at e; done) | skip
  simp only [gtD, Option.some.injEq] at e
  subst e
  exact ⟨_, _, rfl, rfl, fun O H => by rw [Is.bl_iff]⟩
theorem od_ge {K : PySem.W.Frag} : OpD K (rI0 fun i j => .bl (decide (j ≤ i))) geD := od_I0 fun dx dy d e => by
  cases dx <;> cases dy <;> first | (simp only [geD, reduceCtorEq] at e; done) | skip
  simp only [geD, Option.some.injEq] at e
  subst e
  exact ⟨_, _, rfl, rfl, fun O H => by rw [Is.bl_iff]⟩
theorem eqS_ok {K : PySem.W.Frag} {O : Addr → Prop} {H : Hp} {dx dy : D} {vx vy : V} {b : Bool} (ix : Is K O H dx vx) (iy : Is K O H dy vy) (e : eqS dx dy = some b) : scal vx vy = true ∧ decide (vx = vy) = b := by
  cases dx <;> cases dy <;> first | (simp only [eqS, reduceCtorEq] at e; done) | skip
  all_goals simp only [eqS, Option.some.injEq] at e
  all_goals subst e
  all_goals first | rw [Is.int_iff] at ix | rw [Is.str_iff] at ix | rw [Is.bl_iff] at ix | rw [Is.non_iff] at ix
  all_goals first | rw [Is.int_iff] at iy | rw [Is.str_iff] at iy | rw [Is.bl_iff] at iy | rw [Is.non_iff] at iy
  all_goals subst ix iy
  all_goals refine ⟨rfl, ?_⟩
  all_goals simp
theorem od_eq {K : PySem.W.Frag} : OpD K rEq eqD := by
  intro O H dx dy d vx vy Q ol ix iy e q
  obtain ⟨b, e1, rfl⟩ := map_some e
  obtain ⟨h1, h2⟩ := eqS_ok ix iy e1
  exact ⟨h1, q _ H (Same.refl H) (by rw [Is.bl_iff, h2])⟩
theorem od_ne {K : PySem.W.Frag} : OpD K rNe neD := by
  intro O H dx dy d vx vy Q ol ix iy e q
  obtain ⟨b, e1, rfl⟩ := map_some e
  obtain ⟨h1, h2⟩ := eqS_ok ix iy e1
  exact ⟨h1, q _ H (Same.refl H) (by rw [Is.bl_iff, h2])⟩
theorem Is.non_only {K : PySem.W.Frag} {O : Addr → Prop} {H : Hp} {d : D} {v : V} (h : Is K O H d v) : decide (v = .non) = (match d with | .non => true | _ => false) := by
  cases d with
  | non => rw [Is.non_iff] at h; subst h; rfl
  | bl b => rw [Is.bl_iff] at h; subst h; rfl
  | int i => rw [Is.int_iff] at h; subst h; rfl
  | str s => rw [Is.str_iff] at h; subst h; rfl
  | ty n => rw [Is.ty_iff] at h; subst h; rfl
  | ref a => rw [Is.ref_iff] at h; subst h; rfl
  | tup l => rw [Is.tup_iff] at h; obtain ⟨a, xs, rfl, _⟩ := h; rfl
  | lst l => rw [Is.lst_iff] at h; obtain ⟨a, xs, rfl, _⟩ := h; rfl
theorem od_isN {K : PySem.W.Frag} : OpD K (fun x y H Q => y = .non ∧ Q (.bl (decide (x = .non))) H) isND := by
  intro O H dx dy d vx vy Q ol ix iy e q
  unfold isND at e
  cases dy <;> first | (cases e; done) | skip
  rw [Is.non_iff] at iy
  refine ⟨iy, q _ H (Same.refl H) ?_⟩
  have h := ix.non_only
  cases dx <;> cases e <;> rw [Is.bl_iff, h]
theorem od_notN {K : PySem.W.Frag} : OpD K (fun x y H Q => y = .non ∧ Q (.bl (!decide (x = .non))) H) notND := by
  intro O H dx dy d vx vy Q ol ix iy e q
  unfold notND at e
  cases dy <;> first | (cases e; done) | skip
  rw [Is.non_iff] at iy
  refine ⟨iy, q _ H (Same.refl H) ?_⟩
  have h := ix.non_only
  cases dx <;> cases e <;> rw [Is.bl_iff, h] <;> rfl

/-! ### in a list or tuple of texts and numbers -/
def flatD : D → Bool
  | .int _ => true
  | .str _ => true
  | _ => false
def eqF : D → D → Bool
  | .int i, .int j => decide (i = j)
  | .str s, .str t => decide (s = t)
  | _, _ => false
def inD (neg : Bool) (x y : D) : Option D := match y with
  | .lst l => if flatD x = true ∧ l.all flatD = true then some (.bl (if neg then !(l.any fun z => eqF z x) else l.any fun z => eqF z x)) else none
  | .tup l => if flatD x = true ∧ l.all flatD = true then some (.bl (if neg then !(l.any fun z => eqF z x) else l.any fun z => eqF z x)) else none
  | _ => none
theorem flat_ok {K : PySem.W.Frag} {O : Addr → Prop} {H : Hp} {d : D} {v : V} (h : Is K O H d v) (f : flatD d = true) : flatV v = true := by
  cases d <;> first | (cases f; done) | skip
  · rw [Is.int_iff] at h; subst h; rfl
  · rw [Is.str_iff] at h; subst h; rfl
theorem eqF_ok {K : PySem.W.Frag} {O : Addr → Prop} {H : Hp} {d e : D} {v u : V} (h : Is K O H d v) (f : flatD d = true) (h' : Is K O H e u) (f' : flatD e = true) : eqV v u = eqF d e := by
  cases d <;> first | (cases f; done) | skip
  all_goals cases e <;> first | (cases f'; done) | skip
  all_goals first | rw [Is.int_iff] at h | rw [Is.str_iff] at h
  all_goals first | rw [Is.int_iff] at h' | rw [Is.str_iff] at h'
  all_goals subst h h'
  · simp [eqV, eqF]
    rw [Bool.beq_eq_decide_eq]
  · rfl
  · rfl
  · rename_i s t
    simp only [eqV, eqF]
    by_cases z : s = t
    · subst z; simp
    · rw [decide_eq_false z, beq_eq_false_iff_ne]
      intro z'
      have : s.toArray = t.toArray := by injection z'
      exact z (by simpa using this)
theorem in_ok {K : PySem.W.Frag} {O : Addr → Prop} {H : Hp} {d : D} {v : V} (h : Is K O H d v) (f : flatD d = true) : ∀ {l : List D} {xs : List V}, IsL K O H l xs → l.all flatD = true → xs.all flatV = true ∧ inV v xs = l.any fun z => eqF z d
  | [], xs, il, _ => by unfold IsL at il; subst il; exact ⟨rfl, rfl⟩
  | e :: l, xs, il, fa => by
    unfold IsL at il
    obtain ⟨u, r, rfl, i1, i2⟩ := il
    rw [List.all_cons, Bool.and_eq_true] at fa
    obtain ⟨q1, q2⟩ := in_ok h f i2 fa.2
    refine ⟨by rw [List.all_cons, flat_ok i1 fa.1, q1]; rfl, ?_⟩
    unfold inV at q2 ⊢
    rw [List.any_cons, List.any_cons, q2, eqF_ok i1 fa.1 h f]
theorem od_in {K : PySem.W.Frag} (neg : Bool) : OpD K (rIn K neg) (inD neg) := by
  intro O H dx dy d vx vy Q ol ix iy e q
  unfold inD at e
  cases dy <;> first | (cases e; done) | skip
  · rename_i l
    simp only at e
    split at e
    · rename_i hl
      cases e
      rw [Is.tup_iff] at iy
      obtain ⟨a, xs, rfl, hs, il⟩ := iy
      obtain ⟨q1, q2⟩ := in_ok ix hl.1 il hl.2
      exact ⟨a, xs, rfl, .inr hs, flat_ok ix hl.1, q1, q _ H (Same.refl H) (by rw [Is.bl_iff, q2])⟩
    · cases e
  · rename_i l
    simp only at e
    split at e
    · rename_i hl
      cases e
      rw [Is.lst_iff] at iy
      obtain ⟨a, xs, rfl, hs, il⟩ := iy
      obtain ⟨q1, q2⟩ := in_ok ix hl.1 il hl.2
      exact ⟨a, xs, rfl, .inl hs.sq, flat_ok ix hl.1, q1, q _ H (Same.refl H) (by rw [Is.bl_iff, q2])⟩
    · cases e
end
end DD
namespace DD
open PySem PySem.Spec PyProof.Rows L2

/-! ### an item -/
def ixD : D → D → Option D
  | .lst l, .int i => atI l i
  | .tup l, .int i => atI l i
  | .str s, .int i => if s.length ≤ sizeLine then (atI s i).map fun c => .str [c] else none
  | _, _ => none
theorem atI_len {α β : Type} {l : List α} {m : List β} {i : Int} {x : α} (hl : l.length = m.length) (e : atI l i = some x) : ∃ j : Nat, l[j]? = some x ∧ ∀ y, m[j]? = some y → atI m i = some y := by
  unfold atI at e ⊢
  obtain ⟨j, e1, e2⟩ := bind_some e
  exact ⟨j, e2, fun y ey => by rw [← hl, e1]; exact ey⟩
def mIxB (fl : ML) (g : ME) : ME := fun r => (fl r).bind fun l => (g r).bind fun d => (intD d).bind fun i => atI l i
def mLenB (fl : ML) : ME := fun r => (fl r).map fun l => .int l.length
section
variable {X : Cx} {pos : Pos} {a b : Expr} {f g : ME}
theorem od_ix {K : PySem.W.Frag} : OpD K (rIx K) ixD := by
  intro O H dx dy d vx vy Q ol ix iy e q
  cases dx <;> cases dy <;> first | (simp only [ixD, reduceCtorEq] at e; done) | skip
  · rename_i s i
    simp only [ixD] at e
    split at e
    · rename_i hl
      obtain ⟨c, e1, rfl⟩ := map_some e
      rw [Is.str_iff] at ix
      rw [Is.int_iff] at iy
      exact .inr (.inr ⟨_, i, c, ix, iy, by rw [str_len]; exact hl, by simpa using e1, q _ H (Same.refl H) (by rw [Is.str_iff])⟩)
    · cases e
  · rename_i l i
    simp only [ixD] at e
    rw [Is.tup_iff] at ix
    rw [Is.int_iff] at iy
    obtain ⟨p, xs, rfl, hs, il⟩ := ix
    obtain ⟨j, e1, e2⟩ := atI_len il.length e
    obtain ⟨v, e3, iv⟩ := il.get e1
    exact .inr (.inl ⟨p, xs, i, v, rfl, iy, hs, e2 v e3, q _ H (Same.refl H) iv⟩)
  · rename_i l i
    simp only [ixD] at e
    rw [Is.lst_iff] at ix
    rw [Is.int_iff] at iy
    obtain ⟨p, xs, rfl, hs, il⟩ := ix
    obtain ⟨j, e1, e2⟩ := atI_len il.length e
    obtain ⟨v, e3, iv⟩ := il.get e1
    exact .inl ⟨p, xs, i, v, rfl, iy, hs.sq, e2 v e3, q _ H (Same.refl H) iv⟩
theorem de_ix (ha : DE X a f) (hb : DE X b g) (hs : PlainIx b := by intro _ _; rfl) : DE X (.Subscript a b pos) (mBin ixD f g) :=
  PE.conseq (pe_ix ix_seq ha hb hs) fun σ H Q h => two (ta := lE X.K f) (tb := lE X.K g) od_ix h
/-- an item of an owned list -/
theorem de_ixB {fl : ML} (ha : DB X a fl) (hb : DE X b g) (hs : PlainIx b := by intro _ _; rfl) : DE X (.Subscript a b pos) (mIxB fl g) := by
  refine PE.conseq (pe_ix ix_list ha hb hs) fun σ H Q h => ?_
  obtain ⟨O0, r, d, hR, e, q⟩ := h
  obtain ⟨l, e1, e⟩ := bind_some e
  obtain ⟨d', e2, e⟩ := bind_some e
  obtain ⟨i, e3, e⟩ := bind_some e
  cases intD_some e3
  refine ⟨O0, r, l, hR, e1, fun p xs H1 s1 rd il => ⟨O0, r, _, hR.same s1, e2, fun v2 H2 s2 i2 => ?_⟩⟩
  rw [Is.int_iff] at i2
  obtain ⟨j, e4, e5⟩ := atI_len il.length e
  obtain ⟨v, e6, iv⟩ := il.get e4
  exact ⟨p, xs, i, v, rfl, i2, s2.seq rd, e5 v e6, q v H2 (s1.trans s2) (iv.same s2 (hR.same s1).ol)⟩

/-! ### len -/
def lenD : D → Option D
  | .lst l => some (.int l.length)
  | .tup l => some (.int l.length)
  | .str s => if s.length ≤ sizeLine then some (.int s.length) else none
  | _ => none
theorem call_lenA : CallR X (.builtin "len") (fun xs H Q => (∃ p ys, xs = [.ref p] ∧ (SqL X.K H p ys ∨ SqT X.K H p ys) ∧ Q (.int ys.length) H) ∨ (∃ z, xs = [.str z] ∧ z.length ≤ sizeLine ∧ Q (.int z.length) H)) := call_len_seq.or call_len_str
theorem lenD_ok {K : PySem.W.Frag} {O : Addr → Prop} {H : Hp} {x d : D} {v : V} {Q : VK} (i1 : Is K O H x v) (e : lenD x = some d) (q : ∀ v, Is K O H d v → Q v H) :
    (∃ p ys, [v] = [.ref p] ∧ (SqL K H p ys ∨ SqT K H p ys) ∧ Q (.int ys.length) H) ∨ (∃ z, [v] = [.str z] ∧ z.length ≤ sizeLine ∧ Q (.int z.length) H) := by
  cases x <;> first | (simp only [lenD, reduceCtorEq] at e; done) | skip
  · simp only [lenD] at e
    split at e
    · rename_i hl
      cases e
      rw [Is.str_iff] at i1
      subst i1
      exact .inr ⟨_, rfl, by rw [str_len]; exact hl, q _ (by rw [Is.int_iff, str_len])⟩
    · cases e
  · simp only [lenD, Option.some.injEq] at e
    subst e
    rw [Is.tup_iff] at i1
    obtain ⟨p, ys, rfl, hs, il⟩ := i1
    exact .inl ⟨p, ys, rfl, .inr hs, q _ (by rw [Is.int_iff, il.length])⟩
  · simp only [lenD, Option.some.injEq] at e
    subst e
    rw [Is.lst_iff] at i1
    obtain ⟨p, ys, rfl, hs, il⟩ := i1
    exact .inl ⟨p, ys, rfl, .inl hs.sq, q _ (by rw [Is.int_iff, il.length])⟩
theorem de_len {p' : Pos} (hg : Gl X "len") (hm : X.mg "len" = none) (ha : DE X a f) (hs : starEach [a] X.env = (false, eval a X.env) :: starEach [] X.env := by rfl) : DE X (.Call (.Name "len" p') [a] [] pos) (mUn lenD f) := by
  refine PE.conseq (pe_callB call_lenA hg hm PySem.boot_len (pa_cons ha pa_nil hs) (he := hs)) fun σ H Q h => ?_
  obtain ⟨O0, r, d, hR, e, q⟩ := h
  obtain ⟨x, e1, e2⟩ := bind_some e
  exact ⟨O0, r, x, hR, e1, fun v H1 s1 i1 => lenD_ok i1 e2 fun v' iv => q v' H1 s1 iv⟩
theorem de_lenB {p' : Pos} {fl : ML} (hg : Gl X "len") (hm : X.mg "len" = none) (ha : DB X a fl) (hs : starEach [a] X.env = (false, eval a X.env) :: starEach [] X.env := by rfl) : DE X (.Call (.Name "len" p') [a] [] pos) (mLenB fl) := by
  refine PE.conseq (pe_callB call_lenA hg hm PySem.boot_len (pa_cons ha pa_nil hs) (he := hs)) fun σ H Q h => ?_
  obtain ⟨O0, r, d, hR, e, q⟩ := h
  obtain ⟨l, e1, rfl⟩ := map_some e
  exact ⟨O0, r, l, hR, e1, fun p xs H1 s1 rd il => .inl ⟨p, xs, rfl, .inl rd, q _ H1 s1 (by rw [Is.int_iff, il.length])⟩⟩

/-! ### isinstance -/
def tyN : D → Option String
  | .non => some "NoneType"
  | .bl _ => some "bool"
  | .int _ => some "int"
  | .str _ => some "str"
  | .tup _ => some "tuple"
  | .lst _ => some "list"
  | _ => none
def subN : List (String × String × Bool) := [("bool", "int", true), ("NoneType", "int", false), ("NoneType", "str", false), ("NoneType", "bool", false), ("NoneType", "tuple", false), ("NoneType", "list", false),
  ("bool", "str", false), ("bool", "tuple", false), ("bool", "list", false), ("int", "bool", false), ("int", "str", false), ("int", "tuple", false), ("int", "list", false),
  ("str", "int", false), ("str", "bool", false), ("str", "tuple", false), ("str", "list", false), ("tuple", "int", false), ("tuple", "bool", false), ("tuple", "str", false), ("tuple", "list", false),
  ("list", "int", false), ("list", "bool", false), ("list", "str", false), ("list", "tuple", false)]
def instN (t T : String) : Option Bool := if t = T then some true else (subN.find? fun x => x.1 == t && x.2.1 == T).map (·.2.2)
def instD (T : String) (d : D) : Option D := (tyN d).bind fun t => (instN t T).map .bl
theorem kit_ok (K : PySem.W.Frag) {t T : String} {b : Bool} (e : instN t T = some b) : PySem.W.kitOne K (.type t) (.type T) = some b := by
  unfold instN at e
  split at e
  · rename_i h; subst h; cases e; unfold PySem.W.kitOne; rw [if_pos (by simp)]
  · obtain ⟨⟨x, y, c⟩, e1, e2⟩ := map_some e
    have hm := List.mem_of_find?_eq_some e1
    have hp := List.find?_some e1
    simp only [Bool.and_eq_true, beq_iff_eq] at hp
    obtain ⟨rfl, rfl⟩ := hp
    subst e2
    unfold subN at hm
    simp only [List.mem_cons, List.not_mem_nil, or_false, Prod.mk.injEq] at hm
    rcases hm with ⟨rfl, rfl, rfl⟩ | ⟨rfl, rfl, rfl⟩ | ⟨rfl, rfl, rfl⟩ | ⟨rfl, rfl, rfl⟩ | ⟨rfl, rfl, rfl⟩ | ⟨rfl, rfl, rfl⟩ | ⟨rfl, rfl, rfl⟩ | ⟨rfl, rfl, rfl⟩ | ⟨rfl, rfl, rfl⟩ | ⟨rfl, rfl, rfl⟩ | ⟨rfl, rfl, rfl⟩ | ⟨rfl, rfl, rfl⟩ | ⟨rfl, rfl, rfl⟩ | ⟨rfl, rfl, rfl⟩ | ⟨rfl, rfl, rfl⟩ | ⟨rfl, rfl, rfl⟩ | ⟨rfl, rfl, rfl⟩ | ⟨rfl, rfl, rfl⟩ | ⟨rfl, rfl, rfl⟩ | ⟨rfl, rfl, rfl⟩ | ⟨rfl, rfl, rfl⟩ | ⟨rfl, rfl, rfl⟩ | ⟨rfl, rfl, rfl⟩ | ⟨rfl, rfl, rfl⟩ | ⟨rfl, rfl, rfl⟩ <;> kernel_rfl
/-- the type of a value as its object bears it -/
def TyA (K : PySem.W.Frag) (H : Hp) (x : V) (t : String) : Prop := match x with
  | .non => t = "NoneType"
  | .bl _ => t = "bool"
  | .int _ => t = "int"
  | .str _ => t = "str"
  | .ref a => (t = "list" ∧ ∃ xs, SqL K H a xs) ∨ (t = "tuple" ∧ ∃ xs, SqT K H a xs)
  | _ => False
theorem call_isinst : CallR X (.builtin "isinstance") (fun xs H Q => ∃ x t T b, xs = [x, .ty T] ∧ TyA X.K H x t ∧ instN t T = some b ∧ Q (.bl b) H) := by
  intro pins s σ H xs us Q I r h
  obtain ⟨x, t, T, b, rfl, ht, e, q⟩ := h
  obtain ⟨u, v, rfl, r1, r2⟩ := Vals.two r
  cases (show v = Value.type T from r2)
  have e' := kit_ok X.K e
  have fin : ∀ tk, EP X pins σ Q (.bool b) { s with toks := tk } := fun tk => ⟨.bl b, H, I.tok tk, rfl, q⟩
  cases x with
  | non => cases (show t = _ from ht); exact isinst_ok I r1 (.non) e' fin
  | bl y => cases (show t = _ from ht); exact isinst_ok I r1 (.bl y) e' fin
  | int i => cases (show t = _ from ht); exact isinst_ok I r1 (.int i) e' fin
  | str y => cases (show t = _ from ht); exact isinst_ok I r1 (.str y) e' fin
  | ref a =>
    cases (show u = Value.ref a from r1)
    rcases (show (t = "list" ∧ ∃ xs, SqL X.K H a xs) ∨ (t = "tuple" ∧ ∃ xs, SqT X.K H a xs) from ht) with ⟨rfl, xs, hs⟩ | ⟨rfl, xs, hs⟩
    · obtain ⟨its, _, ⟨o, n, h1, h2, _⟩, _⟩ := I.list hs
      exact PySem.W.kia_one PySem.W.kitx_list I.kIn ⟨o, h1, h2⟩ e' (fun z => nomatch z) fin
    · obtain ⟨its, _, ⟨o, h1, h2, _⟩, _⟩ := I.tuple hs
      exact PySem.W.kia_one PySem.W.kitx_tuple I.kIn ⟨o, h1, h2⟩ e' (fun z => nomatch z) fin
  | _ => exact False.elim ht
theorem tyA_ok {K : PySem.W.Frag} {O : Addr → Prop} {H : Hp} {d : D} {v : V} {t : String} (h : Is K O H d v) (e : tyN d = some t) : TyA K H v t := by
  cases d <;> first | (simp only [tyN, reduceCtorEq] at e; done) | skip
  all_goals simp only [tyN, Option.some.injEq] at e
  all_goals subst e
  · rw [Is.non_iff] at h; subst h; rfl
  · rw [Is.bl_iff] at h; subst h; rfl
  · rw [Is.int_iff] at h; subst h; rfl
  · rw [Is.str_iff] at h; subst h; rfl
  · rw [Is.tup_iff] at h; obtain ⟨a, xs, rfl, hs, _⟩ := h; exact .inr ⟨rfl, xs, hs⟩
  · rw [Is.lst_iff] at h; obtain ⟨a, xs, rfl, hs, _⟩ := h; exact .inl ⟨rfl, xs, hs.sq⟩
theorem de_isinst {p' pt : Pos} {x : Str} {T : String} (hg : Gl X "isinstance") (hm : X.mg "isinstance" = none) (ha : DE X a f) (hT : PE X (.Name x pt) (tC (.ty T))) (hs : starEach [a, .Name x pt] X.env = (false, eval a X.env) :: starEach [.Name x pt] X.env := by rfl) (hs2 : starEach [.Name x pt] X.env = (false, eval (.Name x pt) X.env) :: starEach [] X.env := by rfl) : DE X (.Call (.Name "isinstance" p') [a, .Name x pt] [] pos) (mUn (instD T) f) := by
  refine PE.conseq (pe_callB call_isinst hg hm PyProof.Rows.boot_isinstance (pa_cons ha (pa_cons hT pa_nil hs2) hs) (he := hs)) fun σ H Q h => ?_
  obtain ⟨O0, r, d, hR, e, q⟩ := h
  obtain ⟨x, e1, e2⟩ := bind_some e
  obtain ⟨t, e3, e4⟩ := bind_some e2
  obtain ⟨b, e5, rfl⟩ := map_some e4
  exact ⟨O0, r, x, hR, e1, fun v H1 s1 i1 => ⟨v, t, T, b, rfl, tyA_ok i1 e3, e5, q _ H1 s1 (by rw [Is.bl_iff])⟩⟩
end
end DD
namespace DD
open PySem PySem.Spec PyProof.Rows L2

/-! ### an owned list is changed -/
def mtOf (r : En) (i : Nat) : Option (List D) := (r[i]?).bind Sl.mt
def putO (i : Nat) (l : List D) (r : En) : Option En := match r[i]? with
  | some (.o _) => some (r.set i (.o l))
  | some (.p _) => some (r.set i (.p l))
  | _ => none
section
variable {K : PySem.W.Frag} {O0 : Addr → Prop} {H H' : Hp} {r : En} {σ : St} {i : Nat} {a : Addr} {l l' : List D}
theorem putO_some {r' : En} (e : putO i l' r = some r') : ∃ x y, r[i]? = some x ∧ r' = r.set i y ∧ y.own = some l' ∧ y.mt = some l' ∧ (∃ l, x.mt = some l) ∧ (∀ m, y = .p m ↔ m = l' ∧ ∃ n, x = .p n) ∧ (∀ m, y = .o m ↔ m = l' ∧ ∃ n, x = .o n) ∧ ∀ m, y ≠ .z m := by
  unfold putO at e
  cases e1 : r[i]? with
  | none => rw [e1] at e; cases e
  | some x =>
    rw [e1] at e
    cases x with
    | o n => cases e; exact ⟨.o n, .o l', rfl, rfl, rfl, rfl, ⟨n, rfl⟩, fun m => ⟨(fun z => by cases z), (fun ⟨_, _, z⟩ => by cases z)⟩, fun m => ⟨(fun z => by cases z; exact ⟨rfl, n, rfl⟩), (fun ⟨z, _⟩ => by subst z; rfl)⟩, (fun m z => by cases z)⟩
    | p n => cases e; exact ⟨.p n, .p l', rfl, rfl, rfl, rfl, ⟨n, rfl⟩, fun m => ⟨(fun z => by cases z; exact ⟨rfl, n, rfl⟩), (fun ⟨z, _⟩ => by subst z; rfl)⟩, fun m => ⟨(fun z => by cases z), (fun ⟨_, _, z⟩ => by cases z)⟩, (fun m z => by cases z)⟩
    | _ => cases e
theorem R.put {r' : En} {xs' : List V} (h : R K O0 H r σ) (e : putO i l' r = some r') (ha : σ[i]? = some (some (.ref a))) (kp : ∀ b o, b ≠ a → H b = some o → H' b = some o) (lv : ∀ b, b ≠ a → H' b = none → H b = none) (e' : H' a = some (.lst xs')) (il : IsL K (Ow O0 r σ) H' l' xs') :
    R K O0 H' r' σ ∧ Kp H r σ H' r' σ := by
  obtain ⟨x, y, ex, rfl, yo, ym, ⟨l0, xm⟩, yp, yoo, yz⟩ := putO_some e
  have hi : i < r.length := (List.getElem?_eq_some_iff.mp ex).1
  have own_i : OwnAt r σ a := ⟨i, l0, by rw [ex]; exact mt_own xm, ha⟩
  have mut_i : MutAt r σ a := ⟨i, l0, by rw [ex]; exact xm, ha⟩
  have atO : ∀ b, OwnAt (r.set i y) σ b → OwnAt r σ b := fun b ⟨j, m, e1, q1⟩ => by
    by_cases hj : i = j
    · subst hj; rw [ha] at q1; cases q1; exact own_i
    · rw [get_set_ne hj] at e1; exact ⟨j, m, e1, q1⟩
  have atM : ∀ b, MutAt (r.set i y) σ b → MutAt r σ b := fun b ⟨j, m, e1, q1⟩ => by
    by_cases hj : i = j
    · subst hj; rw [ha] at q1; cases q1; exact mut_i
    · rw [get_set_ne hj] at e1; exact ⟨j, m, e1, q1⟩
  have sub : ∀ b, Ow O0 (r.set i y) σ b → H b ≠ none → Ow O0 r σ b := fun b z _ => z.imp id (atO b)
  have sub' : ∀ b, Ow O0 (r.set i y) σ b → H' b ≠ none → Ow O0 r σ b := fun b z _ => z.imp id (atO b)
  have keep : Keep (Ow O0 r σ) H H' := fun b o e1 n => kp b o (fun z => n (by subst z; exact .inr own_i)) e1
  have lst : ∀ b xs, H b = some (.lst xs) → ∃ ys, H' b = some (.lst ys) := fun b xs e1 => by
    by_cases hb : b = a
    · subst hb; exact ⟨xs', e'⟩
    · exact ⟨xs, kp b _ hb e1⟩
  have ol' : OLst (Ow O0 r σ) H' := fun b z => by obtain ⟨xs, q⟩ := h.ol b z; exact lst b xs q
  refine ⟨⟨by simp [h.len], fun j d e1 => ?_, fun j m e1 => ?_, fun j k b m n e1 e2 q1 q2 => ?_, fun b z => ?_, fun j m b e1 q1 => ?_, fun j m b e1 q1 => ?_⟩, ⟨fun b o e1 n => kp b o (fun z => n (by subst z; exact mut_i)) e1, fun b e1 => ?_, lst, fun b z => .inl (atO b z), fun b z => .inl (atM b z), fun j m e1 => ?_, fun j m e1 => ?_⟩⟩
  · have hj : i ≠ j := fun z => by subst z; rw [get_set_eq hi] at e1; cases e1; cases yo
    rw [get_set_ne hj] at e1
    obtain ⟨v, q1, q2⟩ := h.val j d e1
    exact ⟨v, q1, Is.mono keep h.ol sub _ _ q2⟩
  · by_cases hj : i = j
    · subst hj
      rw [get_set_eq hi] at e1
      have : l' = m := by have e1' : y.own = some m := e1; rw [yo] at e1'; exact Option.some.inj e1'
      subst this
      exact ⟨a, xs', ha, e', IsL.mono (Same.kp (Same.refl H') _) ol' sub' _ _ il⟩
    · rw [get_set_ne hj] at e1
      obtain ⟨b, ys, q1, q2, q3⟩ := h.own j m e1
      have hb : b ≠ a := fun z => by
        subst z
        exact hj (h.apart i j b l0 m (by rw [ex]; exact mt_own xm) e1 ha q1)
      exact ⟨b, ys, q1, kp b _ hb q2, IsL.mono keep h.ol sub _ _ q3⟩
  · have get : ∀ (j : Nat) (m : List D), ((r.set i y)[j]?).bind Sl.own = some m → ∃ m', (r[j]?).bind Sl.own = some m' := fun j m e1 => by
      by_cases hj : i = j
      · subst hj; exact ⟨l0, by rw [ex]; exact mt_own xm⟩
      · rw [get_set_ne hj] at e1; exact ⟨m, e1⟩
    obtain ⟨m', z1⟩ := get j m e1
    obtain ⟨n', z2⟩ := get k n e2
    exact h.apart j k b m' n' z1 z2 q1 q2
  · obtain ⟨xs, q⟩ := h.o0 b z; exact lst b xs q
  · by_cases hj : i = j
    · subst hj
      rw [get_set_eq hi] at e1
      rcases e1 with e1 | e1
      · obtain ⟨_, n, z⟩ := (yoo m).mp (Option.some.inj e1)
        exact h.loc i n b (.inl (by rw [ex, z])) q1
      · exact absurd (Option.some.inj e1) (yz m)
    · rw [get_set_ne hj] at e1
      exact h.loc j m b e1 q1
  · by_cases hj : i = j
    · subst hj
      rw [get_set_eq hi] at e1
      obtain ⟨_, n, z⟩ := (yp m).mp (Option.some.inj e1)
      exact h.par i n b (by rw [ex, z]) q1
    · rw [get_set_ne hj] at e1
      exact h.par j m b e1 q1
  · by_cases hb : b = a
    · subst hb; rw [e'] at e1; cases e1
    · exact lv b hb e1
  · by_cases hj : i = j
    · subst hj
      rw [ex] at e1
      exact ⟨⟨l', by rw [get_set_eq hi, (yp l').mpr ⟨rfl, m, Option.some.inj e1⟩]⟩, rfl⟩
    · exact ⟨⟨m, by rw [get_set_ne hj]; exact e1⟩, rfl⟩
  · have hj : i ≠ j := fun z => by subst z; rw [ex] at e1; cases e1; cases xm
    exact ⟨by rw [get_set_ne hj]; exact e1, rfl⟩
theorem R.upd {r' : En} {xs xs' : List V} (h : R K O0 H r σ) (e : putO i l' r = some r') (ha : σ[i]? = some (some (.ref a))) (hx : H a = some (.lst xs)) (il : IsL K (Ow O0 r σ) H l' xs') : R K O0 (upd H a (.lst xs')) r' σ ∧ Kp H r σ (upd H a (.lst xs')) r' σ := by
  have own_a : Ow O0 r σ a := by
    obtain ⟨x, y, ex, _, _, _, ⟨l0, xm⟩, _⟩ := putO_some e
    exact .inr ⟨i, l0, by rw [ex]; exact mt_own xm, ha⟩
  refine h.put e ha (fun b o hb e1 => by rw [upd_ne hb]; exact e1) (fun b hb e1 => by rw [upd_ne hb] at e1; exact e1) upd_same ?_
  exact IsL.mono (fun b o e1 n => by rw [upd_ne (fun z => n (by subst z; exact own_a))]; exact e1) h.ol (fun _ z _ => z) _ _ il
end
def mApp (i : Nat) (f : ME) : En → Option (D × En) := fun r => (f r).bind fun d => (mtOf r i).bind fun l => if l.length < sizeLine then (putO i (l ++ [d]) r).map fun r' => (.non, r') else none
def mAppX (i : Nat) (f : En → Option (D × En)) : En → Option (D × En) := fun r0 => (f r0).bind fun p => (mtOf r0 i).bind fun _ => (mtOf p.2 i).bind fun l => if l.length < sizeLine then (putO i (l ++ [p.1]) p.2).map fun r' => (.non, r') else none
def mPop (i : Nat) : En → Option (D × En) := fun r => (mtOf r i).bind fun l => (l[l.length - 1]?).bind fun d => (putO i l.dropLast r).map fun r' => (d, r')
def mExt (i : Nat) (f : ME) : En → Option (D × En) := fun r => (f r).bind fun d => (itemsD d).bind fun m => (mtOf r i).bind fun l => if l.length + m.length ≤ sizeLine then (putO i (l ++ m) r).map fun r' => (.non, r') else none
theorem IsL.dropLast {K : PySem.W.Frag} {O : Addr → Prop} {H : Hp} {l : List D} {vs : List V} (h : IsL K O H l vs) : IsL K O H l.dropLast vs.dropLast := by
  rw [List.dropLast_eq_take, List.dropLast_eq_take, h.length]
  exact h.take _
section
variable {X : Cx} {apos cpos pn : Pos} {e : Expr} {f : ME} {x : Str} {i : Nat}
theorem mt_at {K : PySem.W.Frag} {O0 : Addr → Prop} {H : Hp} {r : En} {σ : St} {l : List D} (h : R K O0 H r σ) (e : mtOf r i = some l) : ∃ a xs, σ[i]? = some (some (.ref a)) ∧ H a = some (.lst xs) ∧ IsL K (Ow O0 r σ) H l xs := by
  obtain ⟨y, e1, e2⟩ := bind_some e
  exact h.own i l (by rw [e1]; exact mt_own e2)
theorem dx_append (i : Nat) {x : Str} (h : PE X (.Name x pn) (tVar i)) (he : DE X e f)
    (hline : (apos.endLine == cpos.line) = true := by rfl) (hbase : attributeBase (.Name x pn) "append" X.env (eval (.Name x pn) X.env) = eval (.Name x pn) X.env := by rfl)
    (hfew : ((backTo cpos (starEach [e] X.env)).all (fun x => !x.1) && (backToKw cpos (keywordEach [] X.env)).all (fun x => x.1.isSome) && decide ([e].length + ([] : List Keyword).length + (if ([] : List Keyword).isEmpty then 0 else 1) < 30)) = true := by rfl)
    (hs : starEach [e] X.env = (false, eval e X.env) :: starEach [] X.env := by rfl) :
    DX X (.Call (.Attribute (.Name x pn) "append" apos) [e] [] cpos) (mApp i f) := by
  refine PE.conseq (pe_bm PySem.F.plainAttrs_list PySem.F.slot_list_append PySem.F.type_list_append mt_append h (pa_cons he pa_nil hs) hbase hfew hline hs) fun σ H Q hq => ?_
  obtain ⟨O0, r, d', r', hR, e, q⟩ := hq
  obtain ⟨d, e1, e⟩ := bind_some e
  obtain ⟨l, e2, e⟩ := bind_some e
  split at e
  · rename_i hl
    obtain ⟨r2, e3, e4⟩ := map_some e
    cases e4
    obtain ⟨a, xs, q1, q2, q3⟩ := mt_at hR e2
    refine ⟨.ref a, q1, .inl ⟨rfl, xs, SqL.of q2⟩, O0, r, d, hR, e1, fun v H1 s1 i1 => ?_⟩
    have R1 := hR.same s1
    obtain ⟨R2, k2⟩ := R1.upd (xs' := xs ++ [v]) e3 q1 (s1 _ _ q2) ((q3.same s1 hR.ol).append (.cons i1 .nil))
    exact ⟨a, xs, v, rfl, rfl, s1 _ _ q2, by rw [← q3.length]; exact hl, q _ _ R2 ((Kp.of_same r σ s1).trans k2) (by rw [Is.non_iff])⟩
  · cases e
theorem dx_appendX (i : Nat) {x : Str} {fx : En → Option (D × En)} (h : PE X (.Name x pn) (tVar i)) (he : DX X e fx)
    (hline : (apos.endLine == cpos.line) = true := by rfl) (hbase : attributeBase (.Name x pn) "append" X.env (eval (.Name x pn) X.env) = eval (.Name x pn) X.env := by rfl)
    (hfew : ((backTo cpos (starEach [e] X.env)).all (fun x => !x.1) && (backToKw cpos (keywordEach [] X.env)).all (fun x => x.1.isSome) && decide ([e].length + ([] : List Keyword).length + (if ([] : List Keyword).isEmpty then 0 else 1) < 30)) = true := by rfl)
    (hs : starEach [e] X.env = (false, eval e X.env) :: starEach [] X.env := by rfl) :
    DX X (.Call (.Attribute (.Name x pn) "append" apos) [e] [] cpos) (mAppX i fx) := by
  refine PE.conseq (pe_bm PySem.F.plainAttrs_list PySem.F.slot_list_append PySem.F.type_list_append mt_append h (pa_cons he pa_nil hs) hbase hfew hline hs) fun σ H Q hq => ?_
  obtain ⟨O0, r, d', r', hR, e, q⟩ := hq
  obtain ⟨⟨d, r1⟩, e1, e⟩ := bind_some e
  obtain ⟨l0, e0, e⟩ := bind_some e
  obtain ⟨l, e2, e⟩ := bind_some e
  split at e
  · rename_i hl
    obtain ⟨r2, e3, e4⟩ := map_some e
    cases e4
    obtain ⟨a0, xs0, p1, p2, p3⟩ := mt_at hR e0
    refine ⟨.ref a0, p1, .inl ⟨rfl, xs0, SqL.of p2⟩, O0, r, d, r1, hR, e1, fun v H1 R1 k1 i1 => ?_⟩
    obtain ⟨a, xs, q1, q2, q3⟩ := mt_at R1 e2
    rw [p1] at q1; cases q1
    obtain ⟨R2, k2⟩ := R1.upd (xs' := xs ++ [v]) e3 p1 q2 (q3.append (.cons i1 .nil))
    exact ⟨_, xs, v, rfl, rfl, q2, by rw [← q3.length]; exact hl, q _ _ R2 (k1.trans k2) (by rw [Is.non_iff])⟩
  · cases e
theorem dx_pop (i : Nat) {x : Str} (h : PE X (.Name x pn) (tVar i)) (hbase : attributeBase (.Name x pn) "pop" X.env (eval (.Name x pn) X.env) = eval (.Name x pn) X.env := by rfl) (hline : (apos.endLine == cpos.line) = true := by rfl) :
    DX X (.Call (.Attribute (.Name x pn) "pop" apos) [] [] cpos) (mPop i) := by
  refine PE.conseq (pe_bm0 PySem.F.plainAttrs_list PySem.F.slot_list_pop PySem.F.type_list_pop mt_pop h hbase hline) fun σ H Q hq => ?_
  obtain ⟨O0, r, d', r', hR, e, q⟩ := hq
  obtain ⟨l, e2, e⟩ := bind_some e
  obtain ⟨d, e1, e⟩ := bind_some e
  obtain ⟨r2, e3, e4⟩ := map_some e
  have e5 : d = d' := congrArg Prod.fst e4
  have e6 : r2 = r' := congrArg Prod.snd e4
  subst e5 e6
  obtain ⟨a, xs, q1, q2, q3⟩ := mt_at hR e2
  obtain ⟨v, ev, iv⟩ := q3.get e1
  obtain ⟨R2, k2⟩ := hR.upd (xs' := xs.dropLast) e3 q1 q2 q3.dropLast
  refine ⟨.ref a, q1, .inl ⟨rfl, xs, SqL.of q2⟩, a, xs, v, rfl, rfl, q2, by rw [← q3.length]; exact ev, q _ _ R2 k2 ?_⟩
  have own_a : Ow O0 r σ a := by
    obtain ⟨y, z1, z2⟩ := bind_some e2
    exact .inr ⟨i, l, by rw [z1]; exact mt_own z2, q1⟩
  have ow2 : ∀ b, Ow O0 r2 σ b → H b ≠ none → Ow O0 r σ b := fun b z n => z.imp id fun z => (k2.new b z).elim id fun z => absurd z n
  exact Is.mono (fun b o e1 n => by rw [upd_ne (fun z => n (by subst z; exact own_a))]; exact e1) hR.ol ow2 _ _ iv
end
end DD
namespace DD
open PySem PySem.Spec PyProof.Rows L2

/-! ### comprehensions by data -/
def capS : Option Sl → Sl
  | some (.v d) => .v d
  | _ => .un
def capR (cap : List Nat) (n : Nat) (r : En) : En := (cap.map fun j => capS r[j]?) ++ List.replicate (n - cap.length) .un
def compL (bd : D → En → Option En) (c : MB) (x : ME) : List D → En → Option (List D)
  | [], _ => some []
  | d :: t, r => (bd d r).bind fun r1 => (c r1).bind fun b => if b = true then (x r1).bind fun y => (compL bd c x t r1).map (y :: ·) else compL bd c x t r1
def mTrue : MB := fun _ => some true
def mCompIf (cap : List Nat) (n : Nat) (it : ML) (bd : D → En → Option En) (c : MB) (x : ME) : ML := fun r => (it r).bind fun l => if l.length < sizeLine then compL bd c x l (capR cap n r) else none
def mComp (cap : List Nat) (n : Nat) (it : ML) (bd : D → En → Option En) (x : ME) : ML := mCompIf cap n it bd mTrue x
theorem R.cap {K : PySem.W.Frag} {O0 : Addr → Prop} {H H2 : Hp} {r : En} {σ : St} {cap : List Nat} {n : Nat} {p : Addr} {ys : List V} (h : R K O0 H r σ) (s : Same H H2) (hp : H p = none) (ep : H2 p = some (.lst ys)) :
    R K (fun b => Ow O0 r σ b ∨ b = p) H2 (capR cap n r) (sigC cap n σ) := by
  have noO : ∀ (i : Nat) (l : List D), ((capR cap n r)[i]?).bind Sl.own ≠ some l := fun i l e => by
    unfold capR at e
    by_cases hi : i < cap.length
    · rw [List.getElem?_append_left (by simpa using hi), List.getElem?_map] at e
      obtain ⟨j, hj⟩ : ∃ j, cap[i]? = some j := ⟨cap[i], by simp [hi]⟩
      rw [hj] at e
      have e' : (capS r[j]?).own = some l := e
      cases ej : r[j]? with
      | none => rw [ej] at e'; cases e'
      | some y => rw [ej] at e'; cases y <;> cases e'
    · rw [List.getElem?_append_right (by simpa using Nat.le_of_not_lt hi), List.getElem?_replicate] at e
      split at e <;> cases e
  have ol : OLst (fun b => Ow O0 r σ b ∨ b = p) H2 := fun b z => z.elim (fun z => (h.same s).ol b z) fun z => by subst z; exact ⟨ys, ep⟩
  refine ⟨by simp [capR, sigC], fun i d e => ?_, fun i l e => absurd e (noO i l), fun i j a l m e1 => absurd e1 (noO i l), ol, fun i l a e => absurd (show ((capR cap n r)[i]?).bind Sl.own = some l by rcases e with e | e <;> rw [e] <;> rfl) (noO i l), fun i l a e => absurd (show ((capR cap n r)[i]?).bind Sl.own = some l by rw [e]; rfl) (noO i l)⟩
  unfold capR at e
  by_cases hi : i < cap.length
  · rw [List.getElem?_append_left (by simpa using hi), List.getElem?_map] at e
    obtain ⟨j, hj⟩ : ∃ j, cap[i]? = some j := ⟨cap[i], by simp [hi]⟩
    rw [hj] at e
    have e' : capS r[j]? = .v d := Option.some.inj e
    have ej : r[j]? = some (.v d) := by
      cases ej : r[j]? with
      | none => rw [ej] at e'; cases e'
      | some y => rw [ej] at e'; cases y <;> cases e'; rfl
    obtain ⟨v, e1, q⟩ := h.val j d ej
    refine ⟨v, ?_, ?_⟩
    · unfold sigC
      rw [List.getElem?_append_left (by simpa using hi), List.getElem?_map, hj]
      show some ((σ[j]?).getD none) = _
      rw [e1]; rfl
    · refine Is.mono (Same.kp s _) h.ol (fun a z nn => ?_) _ _ q
      rcases z with (z | z) | ⟨k, l, ek, _⟩
      · exact z
      · subst z; exact absurd hp nn
      · exact absurd ek (noO k l)
  · rw [List.getElem?_append_right (by simpa using Nat.le_of_not_lt hi), List.getElem?_replicate] at e
    split at e <;> cases e
section
variable {X : Cx} {N' : List Str} {cap : List Nat} {scope : Scope} {elt tg iter : Expr} {ifs : List Expr} {pos : Pos} {it : ML} {bd : D → En → Option En} {c : MB} {x : ME}
/-- what both forms of a comprehension ask -/
theorem comp_read {tc : Option TT} (htc : ∀ {σ : St} {H : Hp} {K1 : V → Hp → Prop} {K0 : Hp → Prop} {te : TE}, (lT X.K c σ H fun b H1 => if b = true then te σ H1 K1 else K0 H1) → tComp1 tc te K1 K0 σ H)
    (n : Nat) {σ : St} {H : Hp} {Q : VK} (h : lF X.K (mCompIf cap n it bd c x) σ H Q) : tComp cap n (lI X.K it) (lG X.K bd) tc (lE X.K x) σ H Q := by
  obtain ⟨O0, r, out, hR, e, q⟩ := h
  obtain ⟨l, e1, e2⟩ := bind_some e
  split at e2
  · rename_i hlen
    refine ⟨O0, r, l, hR, e1, fun J H1 s1 yl p hp => ?_⟩
    have hpH : H p = none := s1.free hp
    refine ⟨fun i m ys σ2 H2 => m = l.length - i ∧ i ≤ l.length ∧ ys.length ≤ i ∧ H2 p = some (.lst ys) ∧ Same H1 H2 ∧ ∃ r2 dn rest, R X.K (fun b => Ow O0 r σ b ∨ b = p) H2 r2 σ2 ∧ (∀ a, ¬ OwnAt r2 σ2 a) ∧ IsL X.K (fun b => Ow O0 r σ b ∨ b = p) H2 dn ys ∧ compL bd c x (l.drop i) r2 = some rest ∧ dn ++ rest = out,
      ⟨l.length, by simp, Nat.zero_le _, Nat.le_refl _, upd_same, same_upd hp, capR cap n r, [], out, ?_, ?_, .nil, by simpa using e2, rfl⟩, ?_⟩
    · exact R.cap hR (s1.trans (same_upd hp)) hpH upd_same
    · rintro a ⟨i, l', e', _⟩
      obtain ⟨b, xs, _, _⟩ := (R.cap (cap := cap) (n := n) hR (s1.trans (same_upd hp)) hpH (upd_same (o := .lst []))).own i l' e'
      unfold capR at e'
      by_cases hi : i < cap.length
      · rw [List.getElem?_append_left (by simpa using hi), List.getElem?_map] at e'
        obtain ⟨j, hj⟩ : ∃ j, cap[i]? = some j := ⟨cap[i], by simp [hi]⟩
        rw [hj] at e'
        have e'' : (capS r[j]?).own = some l' := e'
        cases ej : r[j]? with
        | none => rw [ej] at e''; cases e''
        | some y => rw [ej] at e''; cases y <;> cases e''
      · rw [List.getElem?_append_right (by simpa using Nat.le_of_not_lt hi), List.getElem?_replicate] at e'
        split at e' <;> cases e'
    · rintro i m ys σ2 H2 ⟨rfl, hil, hyl, hp2, s2, r2, dn, rest, R2, no2, il2, e3, eo⟩
      refine ⟨hp2, by omega, ?_⟩
      obtain ⟨y1, y2⟩ := yl i H2 (fun b => Ow O0 r σ b ∨ b = p) (Same.kp s2 _) fun a z nn => z.elim id fun z => by subst z; exact absurd hp nn
      by_cases hlt : i < l.length
      · obtain ⟨go, yd⟩ := y1 hlt
        have hd : l[i]? = some l[i] := by simp [hlt]
        rw [drop_cons hd] at e3
        obtain ⟨r3, e4, e5⟩ := bind_some e3
        obtain ⟨b, e6, e7⟩ := bind_some e5
        refine .inr ⟨go, fun v H3 yv => ?_⟩
        obtain ⟨s3, iv⟩ := yd v H3 yv
        have R3 := R2.same s3
        have ow2 : ∀ a, Ow (fun b => Ow O0 r σ b ∨ b = p) r2 σ2 a → Ow O0 r σ a ∨ a = p := fun a z => z.elim id fun z => absurd z (no2 a)
        refine ⟨_, r2, l[i], r3, R3, ?_, e4, fun σ4 R4 k4 => ?_⟩
        · exact Is.mono (Same.kp (Same.refl H3) _) R3.o0 (fun a z _ => ow2 a z) _ _ (iv _ hd)
        have no4 : ∀ a, ¬ OwnAt r3 σ4 a := fun a z => by
          rcases k4.new a z with z' | z'
          · exact no2 a z'
          · obtain ⟨xs, ex⟩ := R4.ol a (.inr z)
            rw [z'] at ex; cases ex
        have ow4 : ∀ a, Ow (fun b => Ow O0 r σ b ∨ b = p) r3 σ4 a → Ow O0 r σ a ∨ a = p := fun a z => z.elim id fun z => absurd z (no4 a)
        refine htc ⟨_, r3, b, R4, e6, fun H5 s5 => ?_⟩
        have R5 := R4.same s5
        cases b with
        | false =>
          rw [if_neg Bool.false_ne_true] at e7
          refine iteF ⟨l.length - (i + 1), by omega, rfl, hlt, by omega, (s3.trans s5) _ _ hp2, s2.trans (s3.trans s5), r3, dn, rest, R5, no4, ?_, e7, eo⟩
          exact il2.same (s3.trans s5) R2.o0
        | true =>
          rw [if_pos rfl] at e7
          obtain ⟨y, e8, e9⟩ := bind_some e7
          obtain ⟨rest', e10, e11⟩ := map_some e9
          refine iteT ⟨_, r3, y, R5, e8, fun u H6 s6 iu => ?_⟩
          have s26 := s3.trans (s5.trans s6)
          have hp6 := s26 _ _ hp2
          have R6 := R5.same s6
          have kk : Keep (fun b => Ow O0 r σ b ∨ b = p) H6 (upd H6 p (.lst (ys ++ [u]))) := fun b' o e' nn => by rw [upd_ne (fun z => nn (.inr z))]; exact e'
          refine ⟨hp6, l.length - (i + 1), by omega, rfl, hlt, by simp; omega, upd_same, ?_, r3, dn ++ [y], rest', ?_, no4, ?_, e10, ?_⟩
          · intro b' o e'
            have hb : b' ≠ p := fun z => by subst z; rw [hp] at e'; cases e'
            rw [upd_ne hb]
            exact s26 _ _ (s2 _ _ e')
          · refine ⟨R6.len, fun j d ej => ?_, fun j m ej => ?_, R6.apart, fun b' z => ?_, R6.loc, R6.par⟩
            · obtain ⟨w, q1, q2⟩ := R6.val j d ej
              exact ⟨w, q1, Is.mono (fun b' o e' nn => kk b' o e' fun z => nn (.inl z)) R6.ol (fun _ z _ => z) _ _ q2⟩
            · obtain ⟨a', xs', q1, q2, _⟩ := R6.own j m ej
              exact absurd ⟨j, m, ej, q1⟩ (no4 a')
            · rcases z with z | z
              · by_cases hb : b' = p
                · subst hb; exact ⟨_, upd_same⟩
                · rw [upd_ne hb]; exact R6.o0 b' (.inl z)
              · subst z; exact ⟨_, upd_same⟩
          · have i1 := il2.same s26 R2.o0
            have i2 : Is X.K (fun b => Ow O0 r σ b ∨ b = p) H6 y u := Is.mono (Same.kp (Same.refl H6) _) R6.ol (fun a z _ => .inl z) _ _ iu
            exact IsL.mono kk R6.o0 (fun _ z _ => z) _ _ (i1.append (.cons i2 .nil))
          · rw [← eo, ← e11]; simp
      · have hl : l.drop i = [] := List.drop_eq_nil_of_le (by omega)
        rw [hl] at e3
        have e3' : some [] = some rest := e3
        cases e3'
        rw [List.append_nil] at eo
        subst eo
        exact .inl ⟨y2 (by omega), q p ys H2 (s1.trans s2) hpH hp2 il2⟩
  · cases e2
theorem df_comp (hc : X.calm = true) (o : CmpOk X N' cap scope) (hi : DI X tg iter it) (hg : ∀ C fp s H, DG (cxC X N' scope C fp s H) tg bd) (he : ∀ C fp s H, DE (cxC X N' scope C fp s H) elt x)
    (n : Nat) (hn : N'.length = n := by rfl) (hs : ∀ x, foldedSetIterable iter X.env x = pure x := by intro _; rfl) : DF X (.ListComp elt [⟨tg, iter, [], 0⟩] scope pos) (mComp cap n it bd x) := by
  subst hn
  exact PE.conseq (pe_lcomp (g := lG X.K bd) (te := lE X.K x) (tc := none) hc o hi hg rfl he hs) fun σ H Q h => comp_read (tc := none) (fun {σ H K1 K0 te} z => by
    obtain ⟨O0, r, b, hR, e, q⟩ := z
    unfold mTrue at e; cases e
    have z1 : (if true = true then te σ H K1 else K0 H) := q H (Same.refl H)
    rw [if_pos rfl] at z1
    exact z1) N'.length h
theorem df_compIf {ce : Expr} (hc : X.calm = true) (o : CmpOk X N' cap scope) (hi : DI X tg iter it) (hg : ∀ C fp s H, DG (cxC X N' scope C fp s H) tg bd) (ht : ∀ C fp s H, DT (cxC X N' scope C fp s H) ce c) (he : ∀ C fp s H, DE (cxC X N' scope C fp s H) elt x)
    (n : Nat) (hn : N'.length = n := by rfl) (hs : ∀ x, foldedSetIterable iter X.env x = pure x := by intro _; rfl) : DF X (.ListComp elt [⟨tg, iter, [ce], 0⟩] scope pos) (mCompIf cap n it bd c x) := by
  subst hn
  exact PE.conseq (pe_lcomp (g := lG X.K bd) (te := lE X.K x) (tc := some (lT X.K c)) hc o hi hg ⟨ce, rfl, ht⟩ he hs) fun σ H Q h => comp_read (tc := some (lT X.K c)) (fun z => z) N'.length h
end
def CapOk (X : Cx) (scope : Scope) : List Nat → List Str → Prop
  | [], _ => True
  | j :: t, x :: r => X.N[j]? = some x ∧ scope.names.lookup x = some .free ∧ CapOk X scope t r
  | _ :: _, [] => False
theorem CapOk.get {X : Cx} {scope : Scope} : ∀ {cap : List Nat} {N' : List Str}, CapOk X scope cap N' → ∀ (i j : Nat), cap[i]? = some j → ∃ x, N'[i]? = some x ∧ X.N[j]? = some x ∧ scope.names.lookup x = some .free
  | [], _, _, i, j, e => by simp at e
  | k :: t, [], h, _, _, _ => False.elim h
  | k :: t, x :: r, h, 0, j, e => by
    have e' : k = j := by simpa using e
    subst e'
    exact ⟨x, rfl, h.1, h.2.1⟩
  | k :: t, x :: r, h, i + 1, j, e => by
    obtain ⟨y, q1, q2⟩ := CapOk.get h.2.2 i j (by simpa using e)
    exact ⟨y, by simpa using q1, q2⟩
theorem CapOk.len {X : Cx} {scope : Scope} : ∀ {cap : List Nat} {N' : List Str}, CapOk X scope cap N' → cap.length ≤ N'.length
  | [], _, _ => Nat.zero_le _
  | k :: t, [], h => False.elim h
  | k :: t, x :: r, h => Nat.succ_le_succ (CapOk.len h.2.2)
theorem cmp_mk {X : Cx} {N' : List Str} {cap : List Nat} {scope : Scope} (kind : scope.kind = .function := by rfl) (nc : ∀ y ∈ scope.names, y.2 ≠ .cell := by decide +kernel) (nm : ∀ y ∈ scope.names, y.2 = .local → scope.names.lookup y.1 = some .local := by decide +kernel)
    (fr : ∀ y ∈ scope.names, y.2 = .free → X.env.kindOf y.1 = some .cell ∨ X.env.kindOf y.1 = some .free := by repeat (first | exact List.forall_mem_nil _ | refine List.forall_mem_cons.mpr ⟨fun e => (by first | exact absurd e (by decide) | exact .inl rfl | exact .inr rfl), ?_⟩))
    (capt : CapOk X scope cap N' := by repeat (first | exact trivial | refine ⟨rfl, rfl, ?_⟩)) : CmpOk X N' cap scope := ⟨kind, nc, nm, fr, capt.get, capt.len⟩
end DD
namespace ZZ
open PySem
section
variable {prog : Program} {w : World} {A : Around} {E : Value → Shared → Prop} {s : Shared}
/-- the next item of a tuple's iterator, as a builtin asks for it -/
theorem tnext {ti tu : Addr} {k : Nat} {ys : Array Value} {y : Value} {Q : Value → Shared → Prop} (h1 : s.heap.IsTupleIter ti tu k) (h2 : s.heap.IsTuple tu ys) (h3 : ys[k]? = some y)
    (h4 : ∀ g, g.IsTupleIter ti tu (k + 1) → Heap.SameBut ti s.heap g → Q y { s with heap := g }) : wpAny (model prog w) A (Builtin.SmallTypes.nextOf (.ref ti)) Q E s := by
  obtain ⟨a, ha, ca, da⟩ := id h1
  obtain ⟨b, hb, _, nb, db⟩ := h2
  unfold Builtin.SmallTypes.nextOf; refine wpAny_bind (wpAny_callSpecial?_slot (name := Str.ofString "__next__") h1.typeIs F.slot_tuple_iterator_next (wpAny_call_entry F.slot_tuple_iterator_next h1.typeIs F.entry_tuple_iterator_next (?_) (F.args_tuple_iterator_next_1 _)))
  show wpAny _ _ (field (.ref ti) 0 >>= _) _ _ s; refine wpAny_bind (wpAny_field ha da (x := .ref tu) rfl (?_))
  show wpAny _ _ (if (Value.ref tu == Value.none) = true then _ else _) _ _ s; rw [if_neg (show ¬ ((Value.ref tu == Value.none) = true) from Bool.false_ne_true)]
  show wpAny _ _ (field (.ref ti) 1 >>= _) _ _ s; refine wpAny_bind (wpAny_field ha da (x := .int k 0) rfl (?_))
  show wpAny _ _ (seqItems? (.ref tu) >>= _) _ _ s; refine wpAny_bind (wpAny_seqItems hb db (?_)); simp only [Int.toNat_natCast, h3]
  refine wpAny_bind (wpAny_setField ha da (by simp) (wpAny_pure ⟨y, rfl, wpAny_pure (h4 _ (?_) (Heap.SameBut.update ..))⟩))
  refine ⟨_, Heap.get?_update_self _ ha (Obj.isFreed_of_fields (Obj.data_mapFields da _)), (Obj.cls_mapFields ..).trans ca, ?_⟩; rw [Obj.data_mapFields da]; simp [rawInt]
theorem tend {ti tu : Addr} {k : Nat} {ys : Array Value} {Q : Value → Shared → Prop} (hh : A.handled = none) (h1 : s.heap.IsTupleIter ti tu k) (h2 : s.heap.IsTuple tu ys) (h3 : ys[k]? = none)
    (h4 : ∀ g e, Heap.ExtBut ti s.heap g → (∃ o, g.get? e = some o ∧ o.cls = .type "StopIteration") → E (.ref e) { s with heap := g }) : wpAny (model prog w) A (Builtin.SmallTypes.nextOf (.ref ti)) Q E s := by
  obtain ⟨a, ha, ca, da⟩ := id h1
  obtain ⟨b, hb, _, nb, db⟩ := h2
  unfold Builtin.SmallTypes.nextOf; refine wpAny_bind (wpAny_callSpecial?_slot (name := Str.ofString "__next__") h1.typeIs F.slot_tuple_iterator_next (wpAny_call_entry F.slot_tuple_iterator_next h1.typeIs F.entry_tuple_iterator_next (?_) (F.args_tuple_iterator_next_1 _)))
  show wpAny _ _ (field (.ref ti) 0 >>= _) _ _ s; refine wpAny_bind (wpAny_field ha da (x := .ref tu) rfl (?_))
  show wpAny _ _ (if (Value.ref tu == Value.none) = true then _ else _) _ _ s; rw [if_neg (show ¬ ((Value.ref tu == Value.none) = true) from Bool.false_ne_true)]
  show wpAny _ _ (field (.ref ti) 1 >>= _) _ _ s; refine wpAny_bind (wpAny_field ha da (x := .int k 0) rfl (?_))
  show wpAny _ _ (seqItems? (.ref tu) >>= _) _ _ s; refine wpAny_bind (wpAny_seqItems hb db (?_)); simp only [Int.toNat_natCast, h3]
  refine wpAny_bind (wpAny_rule (wpAny_bind (wpAny_setField ha da (by simp) (?_)))); show wpAny _ _ (newExc (.type "StopIteration") [] >>= _) _ _ _
  refine wpAny_bind (?_); simp only [newExc, newTuple]; refine wpAny_bind (wpAny_newObj_type (?_) (by size_fits))
  refine wpAny_bind (m := firstArgMember _ _) (wpAny_of_eq (a := Value.none) (by first | rfl | (simp only [firstArgMember]; rfl)) (?_)); refine wpAny_newObj_type (?_) (by size_fits)
  simp only [raiseNew]; refine wpAny_bind (wpAny_handled (?_)); first | rw [show A.in1.handled = none from hh] | rw [hh]
  refine wpAny_bind (wpAny_pure (wpAny_throw (?_))); exact h4 _ _ (((Heap.SameBut.update ..).extBut.push _).push _) ⟨_, Heap.get?_push_size _ rfl, rfl⟩
end
theorem drawsT {prog : Program} {w : World} {A : Around} (hh : A.handled = none) (ti tu : Addr) (ne : tu ≠ ti) (ys : Array Value) : Draws prog w A ti [ti, tu] ys.size (fun i v => ys[i]? = some v) (fun i h => h.IsTupleIter ti tu i ∧ h.IsTuple tu ys) where
  live := fun _ _ st => let ⟨o, e, _⟩ := st.1; ⟨o, e⟩
  frame := fun _ _ _ st k => ⟨st.1.at fun o e => k ti (by simp) o e, st.2.at fun o e => k tu (by simp) o e⟩
  item := fun i s Q E hi st q => tnext st.1 st.2 (y := ys[i]) (by simp [hi]) fun g a b => q _ g s.toks (by simp [hi]) ⟨a, st.2.at fun o e => b.extBut _ _ ne e⟩ b
  done := fun s Q E st q => tend hh st.1 st.2 (by simp) q
/-- two drawers side by side -/
structure Ap (z a b i j : Addr) (f g : List Addr) : Prop where
  az : a ≠ z
  bz : b ≠ z
  iz : i ≠ z
  jz : j ≠ z
  ab : a ≠ b
  ai : a ≠ i
  aj : a ≠ j
  bi : b ≠ i
  bj : b ≠ j
  ij : i ≠ j
  fz : z ∉ f
  fb : b ∉ f
  fj : j ∉ f
  gz : z ∉ g
  gb : b ∉ g
  gi : i ∉ g
section
variable {prog : Program} {w : World} {A : Around} {E : Value → Shared → Prop} {s : Shared} {z a b i j : Addr} {f g : List Addr} {n m k : Nat} {P R : Nat → Value → Prop} {S U : Nat → Heap → Prop} {p q : Value}
theorem zitem {Q : Value → Shared → Prop} (D : Draws prog w A i f n P S) (C : Draws prog w A j g m R U) (ap : Ap z a b i j f g) (hz : IsZip s.heap z a b .none) (ha : IsPair s.heap a (.ref i) (.ref j)) (hb : IsPair s.heap b p q) (hS : S k s.heap) (hU : U k s.heap) (hn : k < n) (hm : k < m)
    (h : ∀ x y g' tk, P k x → R k y → IsZip g' z a b (rawInt s.heap.objs.size) → IsPair g' b x y → S (k + 1) g' → U (k + 1) g' → IsPair g' s.heap.objs.size x y → g'.objs.size = s.heap.objs.size + 1 →
      (∀ c o, c ≠ z → c ≠ b → c ≠ i → c ≠ j → s.heap.get? c = some o → g'.get? c = some o) → Q (.ref s.heap.objs.size) { s with heap := g', toks := tk }) :
    wpAny (model prog w) A (Builtin.«zip.__next__» ⟨[.ref z], []⟩) (fun r s' => ∃ y, r = .done (.ret y) ∧ Q y s') E s := by
  show wpAny _ _ (field (.ref z) 2 >>= _) _ _ _; refine wpAny_bind (wpAny_field hz rfl (x := .bool false) rfl (?_))
  show wpAny _ _ (field (.ref z) 3 >>= _) _ _ _; refine wpAny_bind (wpAny_field hz rfl (x := .ref a) rfl (wpAny_bind (wpAny_seqItems ha rfl (?_))))
  show wpAny _ _ (Builtin.SmallTypes.ownedTupleIsFree (.ref z) >>= _) _ _ _; refine wpAny_bind (?_); unfold Builtin.SmallTypes.ownedTupleIsFree
  refine wpAny_bind (wpAny_field hz rfl (x := .none) rfl (wpAny_pure (?_))); simp only [if_true]; refine wpAny_bind (wpAny_rule (wpAny_bind (wpAny_field hz rfl (x := .ref b) rfl (?_))))
  refine wpAny_bind (wpAny_setField_rec hz (by simp) fun g1 z1 t1 => ?_)
  replace z1 : IsZip g1 z a b .ellipsis := z1
  have keep1 : ∀ {c : Addr} {o : Obj}, c ≠ z → s.heap.get? c = some o → g1.get? c = some o := fun n e => t1.extBut _ _ n e
  refine wpAny_bind (?_); simp only [List.zipIdx_cons, List.zipIdx_nil, List.forIn_cons, List.forIn_nil]; refine wpAny_bind (wpAny_bind (wpAny_onRaise (?_)))
  show wpAny _ _ (Builtin.SmallTypes.nextOf (.ref i) >>= _) _ _ _
  refine wpAny_bind (D.item k _ _ _ hn (D.frame _ _ _ hS fun c hc o e => keep1 (fun w' => ap.fz (w' ▸ hc)) e) fun x g2 tk2 Px S2 t2 => wpAny_pure (?_))
  have b2 : IsPair g2 b p q := t2.extBut _ _ ap.bi (keep1 ap.bz hb)
  refine wpAny_bind (wpAny_seqItems b2 rfl (wpAny_bind (wpAny_updateSeq_pair b2 fun g3 b3 t3 => ?_)))
  replace b3 : IsPair g3 b x q := b3
  refine wpAny_bind (wpAny_letGo (wpAny_pure (?_))); refine wpAny_bind (wpAny_bind (wpAny_onRaise (?_)))
  show wpAny _ _ (Builtin.SmallTypes.nextOf (.ref j) >>= _) _ _ _
  have U3 : U k g3 := C.frame _ _ _ hU fun c hc o e => t3.extBut _ _ (fun w' => ap.gb (w' ▸ hc)) (t2.extBut _ _ (fun w' => ap.gi (w' ▸ hc)) (keep1 (fun w' => ap.gz (w' ▸ hc)) e))
  refine wpAny_bind (C.item k _ _ _ hm U3 fun y g4 tk4 Ry U4 t4 => wpAny_pure (?_))
  have b4 : IsPair g4 b x q := t4.extBut _ _ ap.bj b3
  refine wpAny_bind (wpAny_seqItems b4 rfl (wpAny_bind (wpAny_updateSeq_pair b4 fun g5 b5 t5 => ?_)))
  replace b5 : IsPair g5 b x y := b5
  refine wpAny_bind (wpAny_letGo (wpAny_pure (wpAny_pure (?_)))); refine wpAny_bind (wpAny_seqItems b5 rfl (wpAny_bind (wpAny_newTuple (?_))))
  have sz : g5.objs.size = s.heap.objs.size := by rw [t5.1, t4.1, t3.1, t2.1, t1.1]
  have z5 : IsZip g5 z a b .ellipsis := t5.extBut _ _ ap.bz.symm (t4.extBut _ _ ap.jz.symm (t3.extBut _ _ ap.bz.symm (t2.extBut _ _ ap.iz.symm z1)))
  have k5 : ∀ c o, c ≠ z → c ≠ b → c ≠ i → c ≠ j → s.heap.get? c = some o → g5.get? c = some o := fun c o c1 c2 c3 c4 e => t5.extBut _ _ c2 (t4.extBut _ _ c4 (t3.extBut _ _ c2 (t2.extBut _ _ c3 (keep1 c1 e))))
  have S5 : S (k + 1) g5 := D.frame _ _ _ S2 fun c hc o e => t5.extBut _ _ (fun w' => ap.fb (w' ▸ hc)) (t4.extBut _ _ (fun w' => ap.fj (w' ▸ hc)) (t3.extBut _ _ (fun w' => ap.fb (w' ▸ hc)) e))
  have U5 : U (k + 1) g5 := C.frame _ _ _ U4 fun c hc o e => t5.extBut _ _ (fun w' => ap.gb (w' ▸ hc)) e
  have zl : z < g5.objs.size := Heap.lt_size z5
  show wpAny _ _ (Builtin.SmallTypes.ownedTupleHandOut (.ref z) (.ref g5.objs.size) >>= _) _ _ _; refine wpAny_bind (?_); unfold Builtin.SmallTypes.ownedTupleHandOut
  have z6 : IsZip (g5.push { cls := .type "tuple", data := .seq #[x, y] }) z a b .ellipsis := Heap.get?_push_of_some _ z5
  refine wpAny_bind (wpAny_setField_rec z6 (by simp) fun g7 z7 t7 => ?_)
  replace z7 : IsZip g7 z a b (rawInt g5.objs.size) := z7
  refine wpAny_setField_rec z7 (by simp) fun g8 z8 t8 => ?_
  replace z8 : IsZip g8 z a b (rawInt g5.objs.size) := z8
  have up : ∀ c o, c ≠ z → g5.get? c = some o → g8.get? c = some o := fun c o c1 e => t8.extBut _ _ c1 (t7.extBut _ _ c1 (Heap.get?_push_of_some _ e))
  have p8 : IsPair g8 g5.objs.size x y := t8.extBut _ _ (Nat.ne_of_gt zl) (t7.extBut _ _ (Nat.ne_of_gt zl) (Heap.get?_push_size _ rfl))
  have s8 : g8.objs.size = g5.objs.size + 1 := by rw [t8.1, t7.1, Heap.size_push]
  rw [sz] at z8 p8 s8
  refine wpAny_pure ⟨_, rfl, (?_)⟩; show Q (.ref g5.objs.size) _; rw [sz]
  exact h x y g8 _ Px Ry z8 (up _ _ ap.bz b5) (D.frame _ _ _ S5 fun c hc o e => up c o (fun w' => ap.fz (w' ▸ hc)) e) (C.frame _ _ _ U5 fun c hc o e => up c o (fun w' => ap.gz (w' ▸ hc)) e) p8 s8 fun c o c1 c2 c3 c4 e => up c o c1 (k5 c o c1 c2 c3 c4 e)
theorem zend {Q : Fin → Shared → Prop} (D : Draws prog w A i f n P S) (C : Draws prog w A j g m R U) (ap : Ap z a b i j f g) (hz : IsZip s.heap z a b .none) (ha : IsPair s.heap a (.ref i) (.ref j)) (hb : IsPair s.heap b p q) (hS : S k s.heap) (hU : U k s.heap) (hk : (k = n) ∨ (k < n ∧ k = m))
    (h : ∀ g' e, (∀ c o, c ≠ z → c ≠ b → c ≠ i → c ≠ j → s.heap.get? c = some o → g'.get? c = some o) → (∃ o, g'.get? e = some o ∧ o.cls = .type "StopIteration") → ∀ tk, E (.ref e) { s with heap := g', toks := tk }) :
    wpAny (model prog w) A (PySem.Builtin.«zip.__next__» ⟨[.ref z], []⟩) Q E s := by
  show wpAny _ _ (field (.ref z) 2 >>= _) _ _ _; refine wpAny_bind (wpAny_field hz rfl (x := .bool false) rfl (?_))
  show wpAny _ _ (field (.ref z) 3 >>= _) _ _ _; refine wpAny_bind (wpAny_field hz rfl (x := .ref a) rfl (wpAny_bind (wpAny_seqItems ha rfl (?_))))
  show wpAny _ _ (Builtin.SmallTypes.ownedTupleIsFree (.ref z) >>= _) _ _ _; refine wpAny_bind (?_); unfold Builtin.SmallTypes.ownedTupleIsFree
  refine wpAny_bind (wpAny_field hz rfl (x := .none) rfl (wpAny_pure (?_))); simp only [if_true]; refine wpAny_bind (wpAny_rule (wpAny_bind (wpAny_field hz rfl (x := .ref b) rfl (?_))))
  refine wpAny_bind (wpAny_setField_rec hz (by simp) fun g1 z1 t1 => ?_)
  replace z1 : IsZip g1 z a b .ellipsis := z1
  have keep1 : ∀ {c : Addr} {o : Obj}, c ≠ z → s.heap.get? c = some o → g1.get? c = some o := fun n e => t1.extBut _ _ n e
  refine wpAny_bind (?_); simp only [List.zipIdx_cons, List.zipIdx_nil, List.forIn_cons, List.forIn_nil]; refine wpAny_bind (wpAny_bind (wpAny_onRaise (?_)))
  show wpAny _ _ (Builtin.SmallTypes.nextOf (.ref i) >>= _) _ _ _
  have S1 : S k g1 := D.frame _ _ _ hS fun c hc o e => keep1 (fun w' => ap.fz (w' ▸ hc)) e
  rcases hk with hk | ⟨hn, hk⟩
  · subst hk
    refine wpAny_bind (D.done _ _ _ S1 fun g2 e t2 he => ?_)
    obtain ⟨oe, ho, ce⟩ := he
    have z2 : IsZip g2 z a b .ellipsis := t2 _ _ ap.iz.symm z1
    have ez : e ≠ z := fun x => by subst x; rw [z2] at ho; cases ho; simp at ce
    exact wpAny_setField_rec z2 (by simp) fun g3 _ t3 => h g3 e (fun c o c1 _ c3 _ x => t3.extBut _ _ c1 (t2 _ _ c3 (keep1 c1 x))) ⟨oe, t3.extBut _ _ ez ho, ce⟩ _
  · subst hk
    refine wpAny_bind (D.item k _ _ _ hn S1 fun x g2 tk2 Px S2 t2 => wpAny_pure (?_))
    have b2 : IsPair g2 b p q := t2.extBut _ _ ap.bi (keep1 ap.bz hb)
    refine wpAny_bind (wpAny_seqItems b2 rfl (wpAny_bind (wpAny_updateSeq_pair b2 fun g3 b3 t3 => ?_)))
    refine wpAny_bind (wpAny_letGo (wpAny_pure (?_))); refine wpAny_bind (wpAny_bind (wpAny_onRaise (?_)))
    show wpAny _ _ (Builtin.SmallTypes.nextOf (.ref j) >>= _) _ _ _
    have U3 : U k g3 := C.frame _ _ _ hU fun c hc o e => t3.extBut _ _ (fun w' => ap.gb (w' ▸ hc)) (t2.extBut _ _ (fun w' => ap.gi (w' ▸ hc)) (keep1 (fun w' => ap.gz (w' ▸ hc)) e))
    refine wpAny_bind (C.done _ _ _ U3 fun g4 e t4 he => ?_)
    obtain ⟨oe, ho, ce⟩ := he
    have z4 : IsZip g4 z a b .ellipsis := t4 _ _ ap.jz.symm (t3.extBut _ _ ap.bz.symm (t2.extBut _ _ ap.iz.symm z1))
    have ez : e ≠ z := fun x => by subst x; rw [z4] at ho; cases ho; simp at ce
    exact wpAny_setField_rec z4 (by simp) fun g5 _ t5 => h g5 e (fun c o c1 c2 c3 c4 x => t5.extBut _ _ c1 (t4 _ _ c4 (t3.extBut _ _ c2 (t2.extBut _ _ c3 (keep1 c1 x))))) ⟨oe, t5.extBut _ _ ez ho, ce⟩ _
end
end ZZ
namespace ZZ
open PySem
abbrev tI (t : Addr) : Obj := { cls := .type "tuple_iterator", data := .fields #[.ref t, .int 0 0] }
abbrev tP (u v : Value) : Obj := { cls := .type "tuple", data := .seq #[u, v] }
abbrev tZ (a b : Addr) : Obj := { cls := .type "zip", data := .fields #[.none, .bool false, .bool false, .ref a, .ref b] }
abbrev zH (h : Heap) (t u : Addr) : Heap := ((((h.push (tI t)).push (tI u)).push (tP (.ref h.objs.size) (.ref (h.push (tI t)).objs.size))).push (tP .none .none)).push (tZ ((h.push (tI t)).push (tI u)).objs.size (((h.push (tI t)).push (tI u)).push (tP (.ref h.objs.size) (.ref (h.push (tI t)).objs.size))).objs.size)
theorem znew (t u : Addr) (xs ys : Array Value) : Meets (Builtin.«zip.__new__» ⟨[.type "zip", .ref t, .ref u], []⟩) (fun _ R s => s.heap.IsTuple t xs ∧ s.heap.IsTuple u ys ∧ R (.ok (.ret (.ref ((((s.heap.push (tI t)).push (tI u)).push (tP (.ref s.heap.objs.size) (.ref (s.heap.push (tI t)).objs.size))).push (tP .none .none)).objs.size))) { s with heap := zH s.heap t u }) :=
  .of_wp fun prog w A R s h => by
    obtain ⟨hp, g, d, tk, os⟩ := s; obtain ⟨h1, h2, h⟩ := h
    have hsub := sub_zip
    have L1 : Heap.IsTuple (Shared.heap ⟨hp, g, d, tk, os⟩) t xs := h1
    have L2 : Heap.IsTuple (Shared.heap ⟨hp.push (tI t), g, d, tk, os⟩) u ys := h2.at fun o e => Heap.get?_push_of_some _ e
    wp_walk using wpAny_pyIter_tuple L1, wpAny_pyIter_tuple L2
    exact ⟨_, rfl, h⟩
section
variable {prog : Program} {w : World} {A : Around} {E : Value → Shared → Prop} {s : Shared}
theorem zcall {t u : Addr} {xs ys : Array Value} {Q : Value → Shared → Prop} (h1 : s.heap.IsTuple t xs) (h2 : s.heap.IsTuple u ys)
    (h : ∀ g, IsZip g (s.heap.objs.size + 4) (s.heap.objs.size + 2) (s.heap.objs.size + 3) .none → IsPair g (s.heap.objs.size + 2) (.ref s.heap.objs.size) (.ref (s.heap.objs.size + 1)) → IsPair g (s.heap.objs.size + 3) .none .none →
      g.IsTupleIter s.heap.objs.size t 0 → g.IsTupleIter (s.heap.objs.size + 1) u 0 → (∀ c o, s.heap.get? c = some o → g.get? c = some o) → Q (.ref (s.heap.objs.size + 4)) { s with heap := g }) :
    wpAny (model prog w) A (call (.type "zip") [.ref t, .ref u]) Q E s := by
  refine callType_new F.called_zip (by decide) (F.typeCall_zip_2 _ _) (F.newCall_zip_2 _ _) (fun obj => F.args_object_init_3 obj _ _) F.entry_zip_new (znew t u xs ys) ⟨h1, h2, ?_⟩
  have z1 : (s.heap.push (tI t)).objs.size = s.heap.objs.size + 1 := Heap.size_push ..
  have z2 : ((s.heap.push (tI t)).push (tI u)).objs.size = s.heap.objs.size + 2 := by rw [Heap.size_push, z1]
  have z3 : (((s.heap.push (tI t)).push (tI u)).push (tP (.ref s.heap.objs.size) (.ref (s.heap.push (tI t)).objs.size))).objs.size = s.heap.objs.size + 3 := by rw [Heap.size_push, z2]
  have z4 : ((((s.heap.push (tI t)).push (tI u)).push (tP (.ref s.heap.objs.size) (.ref (s.heap.push (tI t)).objs.size))).push (tP .none .none)).objs.size = s.heap.objs.size + 4 := by rw [Heap.size_push, z3]
  have kp : ∀ c o, s.heap.get? c = some o → (zH s.heap t u).get? c = some o := fun c o x => Heap.get?_push_of_some _ (Heap.get?_push_of_some _ (Heap.get?_push_of_some _ (Heap.get?_push_of_some _ (Heap.get?_push_of_some _ x))))
  have g1 : (zH s.heap t u).get? s.heap.objs.size = some (tI t) := Heap.get?_push_of_some _ (Heap.get?_push_of_some _ (Heap.get?_push_of_some _ (Heap.get?_push_of_some _ (Heap.get?_push_size _ rfl))))
  have g2 : (zH s.heap t u).get? (s.heap.push (tI t)).objs.size = some (tI u) := Heap.get?_push_of_some _ (Heap.get?_push_of_some _ (Heap.get?_push_of_some _ (Heap.get?_push_size _ rfl)))
  have g3 : (zH s.heap t u).get? ((s.heap.push (tI t)).push (tI u)).objs.size = some (tP (.ref s.heap.objs.size) (.ref (s.heap.push (tI t)).objs.size)) := Heap.get?_push_of_some _ (Heap.get?_push_of_some _ (Heap.get?_push_size _ rfl))
  have g4 : (zH s.heap t u).get? (((s.heap.push (tI t)).push (tI u)).push (tP (.ref s.heap.objs.size) (.ref (s.heap.push (tI t)).objs.size))).objs.size = some (tP .none .none) := Heap.get?_push_of_some _ (Heap.get?_push_size _ rfl)
  have g5 : (zH s.heap t u).get? ((((s.heap.push (tI t)).push (tI u)).push (tP (.ref s.heap.objs.size) (.ref (s.heap.push (tI t)).objs.size))).push (tP .none .none)).objs.size = some (tZ ((s.heap.push (tI t)).push (tI u)).objs.size (((s.heap.push (tI t)).push (tI u)).push (tP (.ref s.heap.objs.size) (.ref (s.heap.push (tI t)).objs.size))).objs.size) := Heap.get?_push_size _ rfl
  rw [z4] at g5 ⊢
  rw [z3] at g4 g5
  rw [z2] at g3 g5
  rw [z1] at g2 g3
  exact ⟨⟨_, g5, rfl⟩, h _ g5 g3 g4 ⟨_, g1, rfl, rfl⟩ ⟨_, g2, rfl, rfl⟩ kp⟩
/-- the loop's own step -/
theorem znextI {z a b i j : Addr} {f g : List Addr} {n m k : Nat} {P R : Nat → Value → Prop} {S U : Nat → Heap → Prop} {p q : Value} {Q : Option Value → Shared → Prop} (D : Draws prog w A.in1 i f n P S) (C : Draws prog w A.in1 j g m R U) (ap : Ap z a b i j f g) (hz : IsZip s.heap z a b .none) (ha : IsPair s.heap a (.ref i) (.ref j)) (hb : IsPair s.heap b p q) (hS : S k s.heap) (hU : U k s.heap) (hn : k < n) (hm : k < m)
    (h : ∀ x y g' tk, P k x → R k y → IsZip g' z a b (rawInt s.heap.objs.size) → IsPair g' b x y → S (k + 1) g' → U (k + 1) g' → IsPair g' s.heap.objs.size x y → g'.objs.size = s.heap.objs.size + 1 →
      (∀ c o, c ≠ z → c ≠ b → c ≠ i → c ≠ j → s.heap.get? c = some o → g'.get? c = some o) → Q (some (.ref s.heap.objs.size)) { s with heap := g', toks := tk }) : wpAny (model prog w) A (pyNext (.ref z)) Q E s := by
  have hT : s.TypeIs (.ref z) "zip" := ⟨_, hz, rfl⟩; unfold pyNext
  refine wpAny_bind (wpAny_attempt (wpAny_callSpecial?_slot (name := Str.ofString "__next__") hT F.slot_zip_next (wpAny_call_entry F.slot_zip_next hT F.entry_zip_next (?_) (F.args_zip_next_1 _))))
  refine wpAny_mono (zitem (Q := fun v s' => Q (some v) s') D C ap hz ha hb hS hU hn hm h) (fun fin s' hq => ?_) fun _ _ x => x
  obtain ⟨v, e, hq⟩ := hq
  exact ⟨v, e, wpAny_pure hq⟩
theorem znextE {z a b i j : Addr} {f g : List Addr} {n m k : Nat} {P R : Nat → Value → Prop} {S U : Nat → Heap → Prop} {p q : Value} {Q : Option Value → Shared → Prop} (D : Draws prog w A.in1 i f n P S) (C : Draws prog w A.in1 j g m R U) (ap : Ap z a b i j f g) (hz : IsZip s.heap z a b .none) (ha : IsPair s.heap a (.ref i) (.ref j)) (hb : IsPair s.heap b p q) (hS : S k s.heap) (hU : U k s.heap) (hk : (k = n) ∨ (k < n ∧ k = m))
    (h : ∀ g' tk, (∀ c o, c ≠ z → c ≠ b → c ≠ i → c ≠ j → s.heap.get? c = some o → g'.get? c = some o) → Q none { s with heap := g', toks := tk }) : wpAny (model prog w) A (pyNext (.ref z)) Q E s := by
  have hT : s.TypeIs (.ref z) "zip" := ⟨_, hz, rfl⟩; unfold pyNext
  refine wpAny_bind (wpAny_attempt (wpAny_callSpecial?_slot (name := Str.ofString "__next__") hT F.slot_zip_next (wpAny_call_entry F.slot_zip_next hT F.entry_zip_next (zend D C ap hz ha hb hS hU hk fun g' e kp he tk => ?_) (F.args_zip_next_1 _))))
  obtain ⟨o, ho, hc⟩ := he
  refine wpAny_bind (wpAny_isInstance (T := "StopIteration") (b := true) ⟨o, ho, hc⟩ isSubtype_stop (?_))
  exact wpAny_pure (h _ _ kp)
end
end ZZ
namespace DD
open PySem PySem.Spec PyProof.Rows L2

/-! ### iterators that hand out tuples -/
section
variable {X : Cx} {pins : List (Addr × Obj)} {σ : St} {H : Hp} {s : Shared} {h' : Heap}
theorem inv_drew {t' : Nat} {ch : List Addr} {T : Addr} {vs : List V} {its : List Value} (I : Inv X pins σ H s) (hch : ∀ b ∈ ch, FpOk X pins H b) (hT : s.heap.objs.size ≤ T) (kp : ∀ b o, b ∉ ch → s.heap.get? b = some o → h'.get? b = some o)
    (hz : vs.length ≤ sizeLine) (hv : Vals vs its) (ht : IsTup h' T its.toArray) : Inv X pins σ (upd H T (.tup vs)) { s with heap := h', toks := t' } := by
  have hn : H T = none := I.hok.fresh hT
  have old : ∀ {b : Addr} {o : Obj}, s.heap.get? b = some o → b ≠ T := fun e => Nat.ne_of_lt (Nat.lt_of_lt_of_le (Heap.lt_size e) hT)
  have tr : ∀ {b : Addr} {u : HO}, H b = some u → b ≠ T := fun e => ne_of_none e hn
  have trc : ∀ {b : Addr} {u : HO}, H b = some u → b ∉ ch := fun {b u} e z => by rw [(hch b z).1] at e; cases e
  refine I.step (g' := s.gens) (d' := s.drawn) (ch := ch) (fun b hb => ⟨(hch b hb).2.2.2.1, (hch b hb).2.1, (hch b hb).2.2.2.2.1, (hch b hb).2.2.2.2.2⟩) (fun b o _ _ hc e _ => kp b o hc e) (fun b o _ _ hc e _ => ⟨o.slots, kp b o hc e⟩)
    (fun b o _ e n => by rw [upd_ne (old e)]; exact n) (fun b o hc e => ⟨o, kp b o hc e⟩) (fun b xs e => by rw [upd_ne (tr e)]; exact e) (fun b o u e => by rw [upd_ne (tr e)]; exact e) (fun b ps e => ⟨#[], by rw [upd_ne (tr e), e]; simp⟩) (fun m hm => ?_) (fun b u e => ?_) I.bare
  · obtain ⟨o, es, ep, ho, r⟩ := hm
    exact ⟨o, es, ep, kp _ o (fun z => (hch _ z).2.1 rfl) ho, r⟩
  · by_cases hb : b = T
    · subst hb
      rw [upd_same] at e; cases e
      exact ⟨hz, its, hv, ht⟩
    · rw [upd_ne hb] at e
      refine (I.hok b u e).stay (fun c v hc q => kp c v ?_ q) (fun c q => by rw [upd_ne (tr q)]; exact q) fun c xs q => by rw [upd_ne (tr q)]; exact q
      rcases hc with z | z
      · rw [z]; exact trc e
      · exact trc z
theorem inv_turnL {t' : Nat} {ch : List Addr} (I : Inv X pins σ H s) (hch : ∀ b ∈ ch, FpOk X pins H b) (kp : ∀ b o, b ∉ ch → s.heap.get? b = some o → h'.get? b = some o) : Inv X pins σ H { s with heap := h', toks := t' } := by
  have trc : ∀ {b : Addr} {u : HO}, H b = some u → b ∉ ch := fun {b u} e z => by rw [(hch b z).1] at e; cases e
  refine I.step (g' := s.gens) (d' := s.drawn) (ch := ch) (fun b hb => ⟨(hch b hb).2.2.2.1, (hch b hb).2.1, (hch b hb).2.2.2.2.1, (hch b hb).2.2.2.2.2⟩) (fun b o _ _ hc e _ => kp b o hc e) (fun b o _ _ hc e _ => ⟨o.slots, kp b o hc e⟩)
    (fun b o _ e n => n) (fun b o hc e => ⟨o, kp b o hc e⟩) (fun b xs e => e) (fun b o u e => e) (fun b ps e => ⟨#[], by rw [e]; simp⟩) (fun m hm => ?_) (fun b u e => ?_) I.bare
  · obtain ⟨o, es, ep, ho, r⟩ := hm
    exact ⟨o, es, ep, kp _ o (fun z => (hch _ z).2.1 rfl) ho, r⟩
  · refine (I.hok b u e).stay (fun c v hc q => kp c v ?_ q) (fun _ q => q) fun _ _ q => q
    rcases hc with z | z
    · rw [z]; exact trc e
    · exact trc z
end
theorem cls_ne {h : Heap} {a b : Addr} {o o' : Obj} {n m : String} (e : h.get? a = some o) (c : o.cls = .type n) (e' : h.get? b = some o') (c' : o'.cls = .type m) (d : n ≠ m) : a ≠ b := by
  rintro rfl
  rw [e] at e'; cases e'
  rw [c] at c'; injection c' with q; exact d q
/-- 0, x0 · 1, x1 · .. of the list at a -/
def ItE (K : PySem.W.Frag) (a : Addr) : It :=
  ⟨fun i H => ∃ xs x, SqL K H a xs ∧ xs[i]? = some x, fun i H x H' => ∃ T y, x = .ref T ∧ H T = none ∧ H' = upd H T (.tup [.int i, y]) ∧ ∀ xs, SqL K H a xs → xs[i]? = some y, fun i H => ∃ xs, SqL K H a xs ∧ xs.length = i⟩
theorem turn_enum {P : Program} {w : World} {K : PySem.W.Frag} {elts : List Expr} {k : Nat} {tp : Pos} (a e it : Addr) (hei : e ≠ it) : Turn P w K (.Tuple elts k tp) (ItE K a) [e, it] e (fun i h => (∃ old, IsEnum h e it i old) ∧ h.IsListIter it a i) where
  mem := by simp
  obj := fun i h st b hb => by
    obtain ⟨⟨old, h1⟩, o, h2, h3, h4⟩ := st
    have hb' : b = e ∨ b = it := by simpa using hb
    rcases hb' with rfl | rfl
    · exact ⟨_, h1, fun v z => by cases z⟩
    · exact ⟨o, h2, fun v z => by rw [h4] at z; cases z⟩
  keep := fun i h g st kp => ⟨let ⟨old, h1⟩ := st.1; ⟨old, kp e (by simp) _ h1⟩, st.2.at fun o q => kp it (by simp) o q⟩
  item := by
    intro X hP hw hK hc i pins s σ H E I hf st hg
    subst hP hw hK
    obtain ⟨xs, x, hq, hx⟩ := hg
    obtain ⟨its, rv, p, hz⟩ := I.list hq
    obtain ⟨u, hu, ru⟩ := rv.get hx
    obtain ⟨oa, na, ea, ca, _⟩ := id p
    obtain ⟨⟨old, h1⟩, oi, h2, h3, h4⟩ := id st
    have hae : a ≠ e := cls_ne ea ca h1 rfl (by decide)
    have hai : a ≠ it := cls_ne ea ca h2 h3 (by decide)
    have W := WalksT.enumerate (prog := X.prog) (w := X.w) (A := X.A) (I.ok.hd hc) e it a hei hae hai its.toArray
    have hi : i < its.toArray.size := by
      obtain ⟨q, _⟩ := List.getElem?_eq_some_iff.mp hu
      simpa using q
    refine W.item i s _ _ hi ⟨st.1, st.2, p.isList⟩ fun T vals g tk pt hT isT mid kp => ⟨_, rfl, W.go elts k tp i T _ _ _ mid fun g2 st2 kp2 => ?_⟩
    obtain ⟨t, y, hy, rfl⟩ := pt
    have hy' : y = u := by
      have : its[i]? = some y := by simpa using hy
      rw [hu] at this; exact (Option.some.inj this).symm
    subst hy'
    have isT2 : IsTup g2 T #[.int i t, y] := by
      obtain ⟨o, q1, q2⟩ := isT
      exact ⟨o, kp2 T o (W.apart i T _ mid) q1, q2⟩
    refine ⟨.ref T, upd H T (.tup [.int i, x]), inv_drew (s := s) (t' := tk) I (its := [.int i t, y]) (ch := [e, it]) hf hT (fun b o hb q => kp2 b o hb (kp b o hb q)) (by show 2 ≤ sizeLine; decide) (.cons ⟨t, rfl⟩ (.cons ru .nil)) isT2, rfl, ⟨T, x, rfl, I.hok.fresh hT, rfl, fun ys hys => by rw [I.list_inj hys hq]; exact hx⟩, ⟨st2.1, st2.2.1⟩, fun b hb => ?_⟩
    have hbT : b ≠ T := by
      have hb' : b = e ∨ b = it := by simpa using hb
      rcases hb' with rfl | rfl
      · exact Nat.ne_of_lt (Nat.lt_of_lt_of_le (Heap.lt_size h1) hT)
      · exact Nat.ne_of_lt (Nat.lt_of_lt_of_le (Heap.lt_size h2) hT)
    rw [upd_ne hbT]
    exact (hf b hb).1
  done := by
    intro X hP hw hK hc i pins s σ H E I hf st hg
    subst hP hw hK
    obtain ⟨xs, hq, hx⟩ := hg
    obtain ⟨its, rv, p, hz⟩ := I.list hq
    obtain ⟨oa, na, ea, ca, _⟩ := id p
    obtain ⟨⟨old, h1⟩, oi, h2, h3, h4⟩ := id st
    have hae : a ≠ e := cls_ne ea ca h1 rfl (by decide)
    have hai : a ≠ it := cls_ne ea ca h2 h3 (by decide)
    have W := WalksT.enumerate (prog := X.prog) (w := X.w) (A := X.A) (I.ok.hd hc) e it a hei hae hai its.toArray
    have hl : its.toArray.size = i := by rw [List.size_toArray, ← rv.length]; exact hx
    exact W.done s _ _ (by rw [hl]; exact ⟨st.1, st.2, p.isList⟩) fun g tk kp => ⟨rfl, inv_turnL I hf kp⟩
  self := fun _ _ _ _ _ st h => let ⟨⟨_, h1⟩, _⟩ := st; wpAny_pyIter_enum h1 h
/-- pairs of what two lists, or two tuples, hold -/
def ItZ (sq : Hp → Addr → List V → Prop) (a b : Addr) : It :=
  ⟨fun i H => ∃ xs ys x y, sq H a xs ∧ sq H b ys ∧ xs[i]? = some x ∧ ys[i]? = some y, fun i H x H' => ∃ T u v, x = .ref T ∧ H T = none ∧ H' = upd H T (.tup [u, v]) ∧ (∀ xs, sq H a xs → xs[i]? = some u) ∧ ∀ ys, sq H b ys → ys[i]? = some v, fun i H => ∃ xs ys, sq H a xs ∧ sq H b ys ∧ (xs.length = i ∨ (i < xs.length ∧ ys.length = i))⟩
theorem fp_ne {X : Cx} {pins : List (Addr × Obj)} {σ : St} {H : Hp} {s : Shared} {a b : Addr} {o : Obj} (I : Inv X pins σ H s) (h : X.K.lookup a = some o) (f : FpOk X pins H b) : a ≠ b := by
  rintro rfl
  have e := I.ok.mod.kin a o h
  rcases f.2.2.2.1 with z | z
  · exact I.ok.noex a o e z
  · exact absurd (Nat.lt_of_lt_of_le (Nat.lt_of_lt_of_le (Heap.lt_size e) I.ok.bsz) z) (Nat.lt_irrefl _)
theorem fp_rd {X : Cx} {pins : List (Addr × Obj)} {H : Hp} {a b : Addr} {u : HO} (h : Rd H a u) (f : FpOk X pins H b) : a ≠ b := by
  rintro rfl
  obtain ⟨o, e⟩ := Rd.some h
  rw [f.1] at e; cases e
/-- what both sorts share: how the object at a is read, its iterator, its drawer -/
structure Dw (K : PySem.W.Frag) (sq : Hp → Addr → List V → Prop) (isI : Heap → Addr → Addr → Nat → Prop) (nm : String) : Prop where
  get : ∀ {X : Cx} {pins σ H s a xs}, X.K = K → Inv X pins σ H s → sq H a xs → ∃ its : List Value, Vals xs its ∧ xs.length ≤ sizeLine ∧ ∃ o, s.heap.get? a = some o ∧ o.cls = .type nm ∧ ∃ n, o.data = .seq its.toArray n
  inj : ∀ {X : Cx} {pins σ H s a xs ys}, X.K = K → Inv X pins σ H s → sq H a xs → sq H a ys → xs = ys
  ne : ∀ {X : Cx} {pins σ H s a xs b}, X.K = K → Inv X pins σ H s → sq H a xs → FpOk X pins H b → a ≠ b
  it : ∀ {h i a k}, isI h i a k → ∃ o, h.get? i = some o ∧ ∃ vs, o.data = .fields vs
  at_ : ∀ {h h' : Heap} {i a k}, isI h i a k → (∀ o, h.get? i = some o → h'.get? i = some o) → isI h' i a k
  dr : ∀ {prog w A} (_ : A.handled = none) (i a : Addr) (_ : a ≠ i) (ys : Array Value), Draws prog w A i [i, a] ys.size (fun k v => ys[k]? = some v) (fun k h => isI h i a k ∧ ∃ o, h.get? a = some o ∧ o.cls = .type nm ∧ ∃ n, o.data = .seq ys n)
theorem dw_list (K : PySem.W.Frag) : Dw K (SqL K) Heap.IsListIter "list" where
  get := fun {X pins σ H s a xs} hK I h => by
    subst hK
    obtain ⟨its, r, ⟨o, n, e, c, _, d⟩, z⟩ := I.list h
    exact ⟨its, r, z, o, e, c, n, d⟩
  inj := fun {X pins σ H s a xs ys} hK I h g => by subst hK; exact I.list_inj h g
  ne := fun {X pins σ H s a xs b} hK I h f => by
    subst hK
    rcases h with h | ⟨o, _, _, hk, _⟩
    · exact fp_rd h f
    · exact fp_ne I hk f
  it := fun {h i a k} ⟨o, e, c, d⟩ => ⟨o, e, _, d⟩
  at_ := fun h k => h.at k
  dr := fun hh i a ne ys => Draws.list hh i a ne ys
theorem dw_tup (K : PySem.W.Frag) : Dw K (SqT K) Heap.IsTupleIter "tuple" where
  get := fun {X pins σ H s a xs} hK I h => by
    subst hK
    obtain ⟨its, r, ⟨o, e, c, n, d⟩, z⟩ := I.tuple h
    exact ⟨its, r, z, o, e, c, n, d⟩
  inj := fun {X pins σ H s a xs ys} hK I h g => by subst hK; exact I.tuple_inj h g
  ne := fun {X pins σ H s a xs b} hK I h f => by
    subst hK
    rcases h with h | ⟨o, _, _, hk, _⟩
    · exact fp_rd h f
    · exact fp_ne I hk f
  it := fun {h i a k} ⟨o, e, c, d⟩ => ⟨o, e, _, d⟩
  at_ := fun h k => h.at k
  dr := fun hh i a ne ys => ZZ.drawsT hh i a ne ys
structure ZA (z p q i j : Addr) : Prop where
  pz : p ≠ z
  qz : q ≠ z
  iz : i ≠ z
  jz : j ≠ z
  pq : p ≠ q
  pi : p ≠ i
  pj : p ≠ j
  qi : q ≠ i
  qj : q ≠ j
  ij : i ≠ j
theorem turn_zip {P : Program} {w : World} {K : PySem.W.Frag} {elts : List Expr} {k : Nat} {tp : Pos} {sq : Hp → Addr → List V → Prop} {isI : Heap → Addr → Addr → Nat → Prop} {nm : String} (W : Dw K sq isI nm) (a b z p q i j : Addr) (ap : ZA z p q i j) :
    Turn P w K (.Tuple elts k tp) (ItZ sq a b) [z, p, q, i, j] z (fun n h => IsZip h z p q .none ∧ IsPair h p (.ref i) (.ref j) ∧ (∃ u v, IsPair h q u v) ∧ isI h i a n ∧ isI h j b n) where
  mem := by simp
  obj := fun n h st c hc => by
    obtain ⟨h1, h2, ⟨u, v, h3⟩, h4, h5⟩ := st
    obtain ⟨oi, ei, vi, di⟩ := W.it h4
    obtain ⟨oj, ej, vj, dj⟩ := W.it h5
    have hc' : c = z ∨ c = p ∨ c = q ∨ c = i ∨ c = j := by simpa using hc
    rcases hc' with rfl | rfl | rfl | rfl | rfl
    · exact ⟨_, h1, fun v z => by cases z⟩
    · exact ⟨_, h2, fun v z => by cases z⟩
    · exact ⟨_, h3, fun v z => by cases z⟩
    · exact ⟨_, ei, fun v z => by rw [di] at z; cases z⟩
    · exact ⟨_, ej, fun v z => by rw [dj] at z; cases z⟩
  keep := fun n h g st kp => by
    obtain ⟨h1, h2, ⟨u, v, h3⟩, h4, h5⟩ := st
    exact ⟨kp z (by simp) _ h1, kp p (by simp) _ h2, ⟨u, v, kp q (by simp) _ h3⟩, W.at_ h4 fun o e => kp i (by simp) o e, W.at_ h5 fun o e => kp j (by simp) o e⟩
  item := by
    intro X hP hw hK hc n pins s σ H E I hf st hg
    subst hP hw
    obtain ⟨xs, ys, x, y, hx, hy, ex, ey⟩ := hg
    obtain ⟨its, rv, hzx, oa, ea, ca, na, da⟩ := W.get hK I hx
    obtain ⟨its2, rv2, hzy, ob, eb, cb, nb, db⟩ := W.get hK I hy
    obtain ⟨u, hu, ru⟩ := rv.get ex
    obtain ⟨v, hv, rw'⟩ := rv2.get ey
    obtain ⟨h1, h2, ⟨u0, v0, h3⟩, h4, h5⟩ := st
    have fa : ∀ c ∈ [z, p, q, i, j], a ≠ c := fun c hc => W.ne hK I hx (hf c hc)
    have fb : ∀ c ∈ [z, p, q, i, j], b ≠ c := fun c hc => W.ne hK I hy (hf c hc)
    have hn : n < its.toArray.size := by obtain ⟨q', _⟩ := List.getElem?_eq_some_iff.mp hu; simpa using q'
    have hm : n < its2.toArray.size := by obtain ⟨q', _⟩ := List.getElem?_eq_some_iff.mp hv; simpa using q'
    have ap' : ZZ.Ap z p q i j [i, a] [j, b] := ⟨ap.pz, ap.qz, ap.iz, ap.jz, ap.pq, ap.pi, ap.pj, ap.qi, ap.qj, ap.ij,
      by simp; exact ⟨ap.iz.symm, (fa z (by simp)).symm⟩, by simp; exact ⟨ap.qi, (fa q (by simp)).symm⟩, by simp; exact ⟨ap.ij.symm, (fa j (by simp)).symm⟩, by simp; exact ⟨ap.jz.symm, (fb z (by simp)).symm⟩, by simp; exact ⟨ap.qj, (fb q (by simp)).symm⟩, by simp; exact ⟨ap.ij, (fb i (by simp)).symm⟩⟩
    refine ZZ.znextI (W.dr (A := X.A.in1) (I.ok.hd hc) i a (fa i (by simp)) its.toArray) (W.dr (A := X.A.in1) (I.ok.hd hc) j b (fb j (by simp)) its2.toArray) ap' h1 h2 h3 ⟨h4, oa, ea, ca, na, da⟩ ⟨h5, ob, eb, cb, nb, db⟩ hn hm fun x' y' g tk px py z1 q1 s1 u1 t1 sz kp => ⟨_, rfl, ?_⟩
    refine wpAny_letOwnedTupleGo_zip z1 fun g2 z2 sb => ?_
    have hx' : x' = u := by
      have : its[n]? = some x' := by simpa using px
      rw [hu] at this; exact (Option.some.inj this).symm
    have hy' : y' = v := by
      have : its2[n]? = some y' := by simpa using py
      rw [hv] at this; exact (Option.some.inj this).symm
    subst hx' hy'
    have zl : z < s.heap.objs.size := Heap.lt_size h1
    have kp2 : ∀ c o, c ∉ [z, q, i, j] → s.heap.get? c = some o → g2.get? c = some o := fun c o hc e => by
      simp at hc
      exact sb.extBut _ _ hc.1 (kp c o hc.1 hc.2.1 hc.2.2.1 hc.2.2.2 e)
    have isT : IsTup g2 s.heap.objs.size #[x', y'] := ⟨_, sb.extBut _ _ (Nat.ne_of_gt zl) t1, rfl, _, rfl⟩
    have hf' : ∀ c ∈ [z, q, i, j], FpOk X pins H c := fun c hc => hf c (by simp at hc ⊢; rcases hc with h | h | h | h <;> simp [h])
    refine ⟨.ref s.heap.objs.size, upd H s.heap.objs.size (.tup [x, y]), inv_drew (s := s) (t' := tk) I (its := [x', y']) (ch := [z, q, i, j]) hf' (Nat.le_refl _) kp2 (by show 2 ≤ sizeLine; decide) (.cons ru (.cons rw' .nil)) isT, rfl, ⟨_, x, y, rfl, I.hok.fresh (Nat.le_refl _), rfl, fun zs hzs => by rw [W.inj hK I hzs hx]; exact ex, fun zs hzs => by rw [W.inj hK I hzs hy]; exact ey⟩, ?_, fun c hc => ?_⟩
    · refine ⟨z2, sb.extBut _ _ ap.pz (kp p _ ap.pz ap.pq ap.pi ap.pj h2), ⟨_, _, sb.extBut _ _ ap.qz q1⟩, W.at_ s1.1 fun o e => sb.extBut _ _ ap.iz e, W.at_ u1.1 fun o e => sb.extBut _ _ ap.jz e⟩
    · have hlt : c < s.heap.objs.size := by
        obtain ⟨oi, ei, _⟩ := W.it h4
        obtain ⟨oj, ej, _⟩ := W.it h5
        simp at hc
        rcases hc with rfl | rfl | rfl | rfl | rfl
        · exact zl
        · exact Heap.lt_size h2
        · exact Heap.lt_size h3
        · exact Heap.lt_size ei
        · exact Heap.lt_size ej
      rw [upd_ne (Nat.ne_of_lt hlt)]
      exact (hf c hc).1
  done := by
    intro X hP hw hK hc n pins s σ H E I hf st hg
    subst hP hw
    obtain ⟨xs, ys, hx, hy, hl⟩ := hg
    obtain ⟨its, rv, hzx, oa, ea, ca, na, da⟩ := W.get hK I hx
    obtain ⟨its2, rv2, hzy, ob, eb, cb, nb, db⟩ := W.get hK I hy
    obtain ⟨h1, h2, ⟨u0, v0, h3⟩, h4, h5⟩ := st
    have fa : ∀ c ∈ [z, p, q, i, j], a ≠ c := fun c hc => W.ne hK I hx (hf c hc)
    have fb : ∀ c ∈ [z, p, q, i, j], b ≠ c := fun c hc => W.ne hK I hy (hf c hc)
    have e1 := rv.length
    have e2 := rv2.length
    have ap' : ZZ.Ap z p q i j [i, a] [j, b] := ⟨ap.pz, ap.qz, ap.iz, ap.jz, ap.pq, ap.pi, ap.pj, ap.qi, ap.qj, ap.ij,
      by simp; exact ⟨ap.iz.symm, (fa z (by simp)).symm⟩, by simp; exact ⟨ap.qi, (fa q (by simp)).symm⟩, by simp; exact ⟨ap.ij.symm, (fa j (by simp)).symm⟩, by simp; exact ⟨ap.jz.symm, (fb z (by simp)).symm⟩, by simp; exact ⟨ap.qj, (fb q (by simp)).symm⟩, by simp; exact ⟨ap.ij, (fb i (by simp)).symm⟩⟩
    have hf' : ∀ c ∈ [z, q, i, j], FpOk X pins H c := fun c hc => hf c (by simp at hc ⊢; rcases hc with h | h | h | h <;> simp [h])
    refine ZZ.znextE (W.dr (A := X.A.in1) (I.ok.hd hc) i a (fa i (by simp)) its.toArray) (W.dr (A := X.A.in1) (I.ok.hd hc) j b (fb j (by simp)) its2.toArray) ap' h1 h2 h3 ⟨h4, oa, ea, ca, na, da⟩ ⟨h5, ob, eb, cb, nb, db⟩ ?_ fun g tk kp => ⟨rfl, inv_turnL I hf' fun c o hc e => ?_⟩
    · simp only [List.size_toArray]
      rcases hl with h | ⟨h, h'⟩
      · left; omega
      · right; omega
    · simp at hc
      exact kp c o hc.1 hc.2.1 hc.2.2.1 hc.2.2.2 e
  self := fun _ _ _ _ _ st h => wpAny_pyIter_zip st.1 h
end DD
namespace DD
open PySem PySem.Spec PyProof.Rows L2

/-! ### more workings -/
section
variable {X : Cx} {pos : Pos} {a b c : Expr} {f g h : ME}
theorem de_neg (ha : DE X a f) : DE X (.UnaryOp .USub a pos) (mUn negD f) := de_un un_neg (fun O H dx d vx Q i e q => by
  cases dx <;> first | (simp only [negD, reduceCtorEq] at e; done) | skip
  simp only [negD, Option.some.injEq] at e
  subst e
  rw [Is.int_iff] at i
  exact ⟨_, i, q _ (by rw [Is.int_iff])⟩) ha
/-- a <= b also of texts -/
def leA : D → D → Option D
  | .int i, .int j => some (.bl (decide (i ≤ j)))
  | .str s, .str t => some (.bl (!decide (t < s)))
  | _, _ => none
theorem op_leS : OpR X (compareOp .LtE) (fun x y H Q => ∃ i j, x = .str i ∧ y = .str j ∧ Q (.bl (!decide (j.cps.toList < i.cps.toList))) H) := by
  intro pins s σ H x y v u Q I rx ry hq
  obtain ⟨i, j, rfl, rfl, q⟩ := hq
  obtain ⟨t, rfl⟩ := rx
  obtain ⟨t', rfl⟩ := ry
  exact PySem.P.le_str ⟨.bl _, H, I, rfl, q⟩
def rLeA : R2 := fun x y H Q => rI0 (fun i j => .bl (decide (i ≤ j))) x y H Q ∨ ∃ i j, x = .str i ∧ y = .str j ∧ Q (.bl (!decide (j.cps.toList < i.cps.toList))) H
theorem op_leA : OpR X (compareOp .LtE) rLeA := op_le.or op_leS
theorem od_leA {K : PySem.W.Frag} : OpD K rLeA leA := by
  intro O H dx dy d vx vy Q ol ix iy e q
  cases dx <;> cases dy <;> first | (simp only [leA, reduceCtorEq] at e; done) | skip
  · simp only [leA, Option.some.injEq] at e
    subst e
    rw [Is.int_iff] at ix iy
    exact .inl ⟨_, _, ix, iy, q _ H (Same.refl H) (by rw [Is.bl_iff])⟩
  · simp only [leA, Option.some.injEq] at e
    subst e
    rw [Is.str_iff] at ix iy
    exact .inr ⟨_, _, ix, iy, q _ H (Same.refl H) (by rw [Is.bl_iff])⟩
/-- a < b < c -/
def mChain (m m' : D → D → Option D) (f g h : ME) : ME := fun r => (f r).bind fun x => (g r).bind fun y => (m x y).bind fun k => match k with
  | .bl true => (h r).bind fun z => m' y z
  | .bl false => some (.bl false)
  | _ => none
theorem chain_read {r2 r3 : R2} {m m' : D → D → Option D} (hd : OpD X.K r2 m) (hd' : OpD X.K r3 m') {σ : St} {H : Hp} {Q : VK} (hq : lE X.K (mChain m m' f g h) σ H Q) : tChain r2 r3 (lE X.K f) (lE X.K g) (lE X.K h) σ H Q := by
  obtain ⟨O0, r, d, hR, e, q⟩ := hq
  obtain ⟨x, e1, e⟩ := bind_some e
  obtain ⟨y, e2, e⟩ := bind_some e
  obtain ⟨k, e3, e⟩ := bind_some e
  refine ⟨O0, r, x, hR, e1, fun v1 H1 s1 i1 => ⟨O0, r, y, hR.same s1, e2, fun v2 H2 s2 i2 => ?_⟩⟩
  have R2 := hR.same (s1.trans s2)
  refine hd (Ow O0 r σ) H2 x y k v1 v2 _ R2.ol (i1.same s2 (hR.same s1).ol) i2 e3 fun v H3 s3 i3 => ?_
  have s13 := (s1.trans s2).trans s3
  cases k with
  | bl kb =>
    rw [Is.bl_iff] at i3
    refine ⟨kb, i3, ?_⟩
    cases kb with
    | true =>
      obtain ⟨z, e4, e5⟩ := bind_some e
      refine iteT ⟨O0, r, z, hR.same s13, e4, fun v3 H4 s4 i4 => ?_⟩
      exact hd' (Ow O0 r σ) H4 y z d v2 v3 Q (hR.same (s13.trans s4)).ol (i2.same (s3.trans s4) R2.ol) i4 e5 fun v' H' s' i' => q v' H' ((s13.trans s4).trans s') i'
    | false =>
      cases e
      exact iteF (q _ H3 s13 (by rw [Is.bl_iff]))
  | _ => cases e
theorem de_chain {op op' : CmpOp} {r2 r3 : R2} {m m' : D → D → Option D} (ho : OpR X (compareOp op) r2) (hd : OpD X.K r2 m) (ho' : OpR X (compareOp op') r3) (hd' : OpD X.K r3 m') (ha : DE X a f) (hb : DE X b g) (hc : DE X c h)
    (hm : lastMarks [op, op'] [b, c] = false := by with_unfolding_all rfl) : DE X (.Compare a [op, op'] [b, c] pos) (mChain m m' f g h) :=
  PE.conseq (pe_chain ho ho' ha hb hc hm) fun σ H Q hq => chain_read hd hd' hq
theorem dt_chain {op op' : CmpOp} {r2 r3 : R2} {m m' : D → D → Option D} (ho : OpR X (compareOp op) r2) (hd : OpD X.K r2 m) (ho' : OpR X (compareOp op') r3) (hd' : OpD X.K r3 m') (ha : DE X a f) (hb : DE X b g) (hc : DE X c h)
    (hm : lastMarks [op, op'] [b, c] = false := by with_unfolding_all rfl) : DT X (.Compare a [op, op'] [b, c] pos) (mBl (mChain m m' f g h)) := by
  refine PT.conseq (pt_chain ho ho' ha hb hc hm) fun σ H Q hq => ?_
  obtain ⟨O0, r, k, hR, e, q⟩ := hq
  obtain ⟨d, e1, e⟩ := bind_some e
  refine chain_read (m := m) (m' := m') hd hd' ⟨O0, r, d, hR, e1, fun v H' s' i' => ?_⟩
  cases d <;> first | cases e | skip
  rw [Is.bl_iff] at i'
  exact ⟨_, i', q H' s'⟩
/-! ### max, str, tuple -/
def maxI : List Int → Int
  | [] => 0
  | [i] => i
  | i :: r => if maxI r > i then maxI r else i
def intsD : List D → Option (List Int)
  | [] => some []
  | .int i :: r => (intsD r).map (i :: ·)
  | _ => none
def mMax (fs : ML) : ME := fun r => (fs r).bind fun l => match l with
  | [.int i, .int j] => some (.int (if j > i then j else i))
  | [.int i, .int j, .int k] => some (.int (if j > i then (if k > j then k else j) else (if k > i then k else i)))
  | _ => none
theorem call_max3 (hc : X.calm = true) : CallR X (.builtin "max") (fun xs H Q => ∃ i j k, xs = [.int i, .int j, .int k] ∧ Q (.int (if j > i then (if k > j then k else j) else (if k > i then k else i))) H) := by
  intro pins s σ H xs us Q I r hq
  obtain ⟨i, j, k, rfl, q⟩ := hq
  cases r with
  | cons r1 r =>
    obtain ⟨u2, u3, rfl, ⟨t2, rfl⟩, ⟨t3, rfl⟩⟩ := Vals.two r
    obtain ⟨t1, rfl⟩ := r1
    refine max_three_ints (I.ok.hd hc) fun h' tk kp => ⟨_, H, I.kept kp, ?_, q⟩
    split <;> split <;> exact ⟨_, rfl⟩
theorem de_max {p' : Pos} {es : List Expr} {fs : ML} (hc : X.calm = true) (hg : Gl X "max") (hm : X.mg "max" = none) (ha : DA X (a :: es) fs)
    (hs : starEach (a :: es) X.env = (false, eval a X.env) :: starEach es X.env := by rfl) (hpl : (backTo pos (starEach es X.env)).any (·.1) = false := by rfl) : DE X (.Call (.Name "max" p') (a :: es) [] pos) (mMax fs) := by
  refine PE.conseq (pe_callB ((call_max2 hc).or (call_max3 hc)) hg hm PyProof.Rows.boot_max ha (he := hs) (hpl := hpl)) fun σ H Q hq => ?_
  obtain ⟨O0, r, d, hR, e, q⟩ := hq
  obtain ⟨l, e1, e2⟩ := bind_some e
  refine ⟨O0, r, l, hR, e1, fun vs H1 s1 il => ?_⟩
  split at e2
  · cases e2
    obtain ⟨v, u, rfl, i1, i2⟩ := il.inv2
    rw [Is.int_iff] at i1 i2
    exact .inl ⟨_, _, by rw [i1, i2], q _ H1 s1 (by rw [Is.int_iff])⟩
  · cases e2
    obtain ⟨v, u, w, rfl, i1, i2, i3⟩ := il.inv3
    rw [Is.int_iff] at i1 i2 i3
    exact .inr ⟨_, _, _, by rw [i1, i2, i3], q _ H1 s1 (by rw [Is.int_iff])⟩
  · cases e2
/-- max of a list of numbers -/
def mMaxL (fl : ML) : ME := fun r => (fl r).bind fun l => (intsD l).bind fun ns => match ns with
  | [] => none
  | i :: t => some (.int (t.foldl max i))
theorem intsD_ok {K : PySem.W.Frag} {O : Addr → Prop} {H : Hp} : ∀ {l : List D} {ns : List Int} {vs : List V}, intsD l = some ns → IsL K O H l vs → vs = ns.map V.int
  | [], ns, vs, e, il => by cases e; unfold IsL at il; subst il; rfl
  | d :: l, ns, vs, e, il => by
    unfold IsL at il
    obtain ⟨v, r, rfl, i1, i2⟩ := il
    cases d <;> first | (simp only [intsD, reduceCtorEq] at e; done) | skip
    simp only [intsD] at e
    obtain ⟨ms, e1, rfl⟩ := map_some e
    rw [Is.int_iff] at i1
    rw [i1, intsD_ok e1 i2]; rfl
theorem foldl_max : ∀ (t : List Int) (i : Int), t.foldl max i ∈ i :: t ∧ ∀ x ∈ i :: t, x ≤ t.foldl max i
  | [], i => ⟨List.mem_cons_self, fun x hx => by simp at hx; rw [hx]; exact Int.le_refl _⟩
  | j :: t, i => by
    obtain ⟨h1, h2⟩ := foldl_max t (max i j)
    refine ⟨?_, fun x hx => ?_⟩
    · rw [List.foldl_cons]
      rcases List.mem_cons.mp h1 with z | z
      · rw [z]
        rcases Int.le_total i j with y | y
        · rw [Int.max_eq_right y]; simp
        · rw [Int.max_eq_left y]; simp
      · exact List.mem_cons_of_mem _ (List.mem_cons_of_mem _ z)
    · rw [List.foldl_cons]
      have hm := h2 (max i j) List.mem_cons_self
      rcases List.mem_cons.mp hx with z | z
      · rw [z]; exact Int.le_trans (Int.le_max_left i j) hm
      · rcases List.mem_cons.mp z with z | z
        · rw [z]; exact Int.le_trans (Int.le_max_right i j) hm
        · exact h2 x (List.mem_cons_of_mem _ z)
theorem call_maxL (hc : X.calm = true) : CallR X (.builtin "max") (fun xs H Q => ∃ p i ns, xs = [.ref p] ∧ SqL X.K H p ((i :: ns).map V.int) ∧ Q (.int (ns.foldl max i)) H) := by
  intro pins s σ H xs us Q I r hq
  obtain ⟨p, i, ns, rfl, hS, q⟩ := hq
  obtain ⟨u, rfl, ru⟩ := Vals.one r
  cases ru
  obtain ⟨its, rv, pl, hz⟩ := I.list hS
  have hi : IntsAre its (i :: ns) := intsAre_of rv
  obtain ⟨xs, e⟩ := hi.allInts.items; have hns : (i :: ns) = xs.toList.map (·.1) := by rw [← hi.numsOf, ← nums_intItems, ← e]
  have hsz : 0 < xs.size := by
    have h3 := congrArg List.length hns
    have h4 : ns.length + 1 = xs.toList.length := by simpa using h3
    have h5 : xs.toList.length = xs.size := by simp
    omega
  have pl' := pl.isList
  rw [e] at pl'
  refine max_intList (I.ok.hd hc) pl' hsz fun v h' tk hv hk => ?_
  obtain ⟨t, rfl⟩ := intItems_at hv; obtain ⟨h1, h2⟩ := argBest_gt (numAt xs) (xs.size - 1)
  refine ⟨.int (ns.foldl max i), H, I.kept hk, ⟨t, ?_⟩, q⟩
  obtain ⟨m1, m2⟩ := foldl_max ns i
  congr 1
  refine Int.le_antisymm ?_ ?_
  · refine m2 _ ?_
    rw [hns, numAt_eq]; exact getD_mem (by rw [List.length_map, Array.length_toList]; omega)
  · rw [hns] at m1
    obtain ⟨k, hk', ek⟩ := mem_getD m1
    rw [← ek]
    rw [List.length_map, Array.length_toList] at hk'
    rw [← numAt_eq]; exact h2 k (by omega)
theorem de_maxL {p' : Pos} {fl : ML} (hc : X.calm = true) (hg : Gl X "max") (hm : X.mg "max" = none) (ha : DB X a fl)
    (hs : starEach [a] X.env = (false, eval a X.env) :: starEach [] X.env := by rfl) : DE X (.Call (.Name "max" p') [a] [] pos) (mMaxL fl) := by
  refine PE.conseq (pe_callB (call_maxL hc) hg hm PyProof.Rows.boot_max (pa_cons ha pa_nil hs) (he := hs)) fun σ H Q hq => ?_
  obtain ⟨O0, r, d, hR, e, q⟩ := hq
  obtain ⟨l, e1, e2⟩ := bind_some e
  obtain ⟨ns, e3, e4⟩ := bind_some e2
  refine ⟨O0, r, l, hR, e1, fun p xs H1 s1 sq il => ?_⟩
  cases ns with
  | nil => cases e4
  | cons i t =>
    cases e4
    have ex := intsD_ok e3 il
    subst ex
    exact ⟨p, i, t, rfl, sq, q _ H1 s1 (by rw [Is.int_iff])⟩
/-- the signs of a number -/
def intC (i : Int) : List Nat := (Str.ofString (toString i)).cps.toList
def strD : D → Option D
  | .int i => if i.natAbs.log2 < 1920 then some (.str (intC i)) else none
  | .str s => some (.str s)
  | _ => none
theorem call_strS : CallR X (.type "str") (fun xs H Q => ∃ x, xs = [.str x] ∧ Q (.str x) H) := by
  intro pins s σ H xs us Q I r hq
  obtain ⟨x, rfl, q⟩ := hq
  obtain ⟨u, rfl, t, rfl⟩ := Vals.one r
  exact PySem.P.str_of_str ⟨.str x, H, I, ⟨t, rfl⟩, q⟩
theorem de_strOf {p' : Pos} (hg : Gl X "str") (hm : X.mg "str" = none) (ha : DE X a f) (hs : starEach [a] X.env = (false, eval a X.env) :: starEach [] X.env := by rfl) : DE X (.Call (.Name "str" p') [a] [] pos) (mUn strD f) := by
  refine PE.conseq (pe_callTy (call_str_int.or call_strS) hg hm PyProof.Rows.boot_str (pa_cons ha pa_nil hs) (he := hs)) fun σ H Q hq => ?_
  obtain ⟨O0, r, d, hR, e, q⟩ := hq
  obtain ⟨x, e1, e2⟩ := bind_some e
  refine ⟨O0, r, x, hR, e1, fun v H1 s1 i1 => ?_⟩
  cases x <;> first | (simp only [strD, reduceCtorEq] at e2; done) | skip
  · simp only [strD] at e2
    split at e2
    · rename_i hl
      cases e2
      rw [Is.int_iff] at i1
      exact .inl ⟨_, by rw [i1], hl, q _ H1 s1 (by rw [Is.str_iff]; unfold intC; simp)⟩
    · cases e2
  · simp only [strD, Option.some.injEq] at e2
    subst e2
    have i1' := i1
    rw [Is.str_iff] at i1'
    exact .inr ⟨_, by rw [i1'], q _ H1 s1 (by rw [← i1']; exact i1)⟩
def mTupOf (fl : ML) : ME := fun r => (fl r).map .tup
theorem de_tupleOf {p' : Pos} {fl : ML} (hg : Gl X "tuple") (hm : X.mg "tuple" = none) (ha : DB X a fl) (hs : starEach [a] X.env = (false, eval a X.env) :: starEach [] X.env := by rfl) : DE X (.Call (.Name "tuple" p') [a] [] pos) (mTupOf fl) := by
  refine PE.conseq (pe_callTy call_tuple_of hg hm PyProof.Rows.boot_tuple (pa_cons ha pa_nil hs) (he := hs)) fun σ H Q hq => ?_
  obtain ⟨O0, r, d, hR, e, q⟩ := hq
  obtain ⟨l, e1, rfl⟩ := map_some e
  refine ⟨O0, r, l, hR, e1, fun p xs H1 s1 sq il => ⟨p, xs, rfl, .inl ⟨sq, fun t ht => q _ _ (s1.trans (same_upd ht)) ?_⟩⟩⟩
  rw [Is.tup_iff]
  exact ⟨t, xs, rfl, SqT.of upd_same, il.same (same_upd ht) (hR.same s1).ol⟩
theorem db_f {fl : ML} (h : DF X a fl) : DB X a fl := by
  refine PE.conseq h fun σ H Q hq => ?_
  obtain ⟨O0, r, l, hR, e, q⟩ := hq
  refine ⟨O0, r, l, hR, e, fun p xs H1 s1 n1 e1 il => q p xs H1 s1 (SqL.of e1) ?_⟩
  have ol : OLst (fun b => Ow O0 r σ b ∨ b = p) H1 := fun b z => z.elim (fun z => (hR.same s1).ol b z) fun z => by subst z; exact ⟨xs, e1⟩
  exact IsL.mono (Same.kp (Same.refl H1) _) ol (fun a z _ => .inl z) l xs il
end
/-! ### unpacking assignments -/
def sAsg (f : ME) (bd : D → En → Option En) : MS := fun r => (f r).bind fun d => (bd d r).map .nx
theorem ds_asg {X : Cx} {pos : Pos} {tg e : Expr} {f : ME} {bd : D → En → Option En} (he : DE X e f) (hg : DG X tg bd) (hs : swapsWithSole [tg] e pos.line X.env = pure false := by rfl) (hw : swappedStores [tg] e X.env = pure none := by rfl)
    (h1 : (assignEach [tg] X.env).map (·.2) = [assign tg X.env] := by rfl) : DS X (.Assign [tg] e pos) (sAsg f bd) := by
  refine PS.conseq (ps_asg he hg hs hw h1) fun Dn σ H hq => ?_
  obtain ⟨O0, r, fl, hR, e, q⟩ := hq
  obtain ⟨d, e1, e2⟩ := bind_some e
  obtain ⟨r', e3, rfl⟩ := map_some e2
  refine ⟨O0, r, d, hR, e1, fun v H1 s1 i1 => ⟨O0, r, d, r', hR.same s1, i1, e3, fun σ' R' k' => q σ' H1 R' ((Kp.of_same r σ s1).trans k')⟩⟩
end DD
namespace DD
open PySem PySem.Spec PyProof.Rows L2 PySem.StrLaws

/-! ### cuts -/
def cutL {α : Type} (xs : List α) (lo hi : Option Int) : List α := (xs.drop (HT.sIx xs.length 0 lo)).take (HT.sIx xs.length xs.length hi - HT.sIx xs.length 0 lo)
theorem sIx_le' (n d : Nat) (hd : d ≤ n) (o : Option Int) : HT.sIx n d o ≤ n := HT.sIx_le n d hd o
theorem sliceIdx_eq (lo hi : Option Int) (n : Nat) : Builtin.Str.strSliceIndices lo hi 1 n = Builtin.Str.strSliceIndices (some ((HT.sIx n 0 lo : Nat) : Int)) (some ((HT.sIx n n hi : Nat) : Int)) 1 n := by
  have key : ∀ (v : Option Int) (d : Nat), d ≤ n → (match v with | none => (d : Int) | some i => max 0 (min (if i < 0 then i + (n : Int) else i) (n : Int))) = max 0 (min (if ((HT.sIx n d v : Nat) : Int) < 0 then ((HT.sIx n d v : Nat) : Int) + (n : Int) else ((HT.sIx n d v : Nat) : Int)) (n : Int)) := by
    intro v d hd
    have hle := sIx_le' n d hd v
    have h0 : ¬ (((HT.sIx n d v : Nat) : Int) < 0) := by omega
    rw [if_neg h0]
    cases v with
    | none =>
      have e : HT.sIx n d none = d := rfl
      rw [e]; show (d : Int) = _; omega
    | some i =>
      have e : HT.sIx n d (some i) = if i < 0 then (i + (n : Int)).toNat else min i.toNat n := rfl
      show max 0 (min (if i < 0 then i + (n : Int) else i) (n : Int)) = _
      rw [e] at hle ⊢
      split <;> split at hle <;> omega
  have e1 : (1 : Int) > 0 := by omega
  unfold PySem.Builtin.Str.strSliceIndices
  simp only [e1, if_true]
  have k1 := key lo 0 (Nat.zero_le _)
  have k2 := key hi n (Nat.le_refl _)
  cases lo <;> cases hi <;> simp only at k1 k2 ⊢ <;> rw [← k1, ← k2] <;> rfl
theorem sliceText_eq (x : Str) (lo hi : Option Int) : sliceText x lo hi = ⟨(cutL x.cps.toList lo hi).toArray⟩ := by
  have hl : x.cps.toList.length = x.length := by simp [Str.length]
  unfold cutL
  rw [hl]
  have ha := sIx_le' x.length 0 (Nat.zero_le _) lo
  have hb := sIx_le' x.length x.length (Nat.le_refl _) hi
  have e : sliceText x lo hi = sliceText x (some ((HT.sIx x.length 0 lo : Nat) : Int)) (some ((HT.sIx x.length x.length hi : Nat) : Int)) := by
    unfold sliceText
    rw [sliceIdx_eq lo hi x.length]
  rw [e]
  by_cases hab : HT.sIx x.length 0 lo ≤ HT.sIx x.length x.length hi
  · exact sliceText_nat x hab hb
  · have z : HT.sIx x.length x.length hi - HT.sIx x.length 0 lo = 0 := by omega
    rw [z, List.take_zero]
    have em : Builtin.Str.strSliceIndices (some ((HT.sIx x.length 0 lo : Nat) : Int)) (some ((HT.sIx x.length x.length hi : Nat) : Int)) 1 x.length = [] := by
      have e1 : (1 : Int) > 0 := by omega
      unfold PySem.Builtin.Str.strSliceIndices
      simp only [e1, if_true]
      have h0 : ¬ (((HT.sIx x.length 0 lo : Nat) : Int) < 0) := by omega
      have h1 : ¬ (((HT.sIx x.length x.length hi : Nat) : Int) < 0) := by omega
      rw [if_neg h0, if_neg h1]
      unfold PySem.sliceRange
      simp only [e1, if_true]
      split
      · omega
      · rfl
    unfold sliceText
    rw [em]
    split
    · rename_i q
      have q' : x.length = 0 := by have : 0 = x.length := by simpa using q
                                   exact this.symm
      apply Str.ext'
      have : x.cps.size = 0 := q'
      exact Array.eq_empty_of_size_eq_zero this
    · rfl
section
variable {X : Cx} {pos p2 : Pos} {a b : Expr} {f g : ME}
def rSlS : V → Option Int → Option Int → Hp → VK → Prop := fun x lo hi H Q => ∃ z, x = .str z ∧ z.length ≤ sizeLine ∧ Q (.str ⟨(cutL z.cps.toList lo hi).toArray⟩) H
theorem cutL_len {α : Type} (xs : List α) (lo hi : Option Int) : (cutL xs lo hi).length ≤ xs.length := by
  unfold cutL
  rw [List.length_take, List.length_drop]
  omega
theorem sl_str : SlR X rSlS := by
  intro pins s σ H x v vl vu lo hi sl Q I rx hs pl pu hq
  obtain ⟨z, rfl, hz, q⟩ := hq
  obtain ⟨t, rfl⟩ := rx
  refine ⟨"str", _, PySem.F.slot_str_getitem.lookup, typeIs_str _ _ _, ?_⟩
  have main : ∀ (l u : Option (Int × Tok)), l.map (·.1) = lo → u.map (·.1) = hi → s.heap.IsSlice sl l u none → wpAny (model X.prog X.w) X.A (getItem (.str z t) (.ref sl)) (EP X pins σ Q) X.xe s := by
    intro l u hl hu hsl
    refine wpAny_getItem_str_slice hsl rfl ?_
    have e : ∀ t' k, EP X pins σ Q (.str (sliceText z lo hi) t') { s with toks := k } := fun t' k => ⟨.str _, H, I.tok k, ⟨t', rfl⟩, by rw [sliceText_eq]; exact q⟩
    have hle : (sliceText z lo hi).length ≤ sizeLine := by
      rw [sliceText_eq, str_len]
      have := cutL_len z.cps.toList lo hi
      have h2 : z.cps.toList.length = z.length := by simp [Str.length]
      omega
    unfold sliceMade slicePicked
    rw [hl, hu]
    exact post_val_or_str ⟨hle, e⟩
  obtain ⟨o, h1, h2, h3⟩ := hs
  cases pl with
  | none => cases pu with
    | none => exact main none none rfl rfl ⟨o, h1, h2, h3⟩
    | int j tj => exact main none (some (j, tj)) rfl rfl ⟨o, h1, h2, h3⟩
  | int i ti => cases pu with
    | none => exact main (some (i, ti)) none rfl rfl ⟨o, h1, h2, h3⟩
    | int j tj => exact main (some (i, ti)) (some (j, tj)) rfl rfl ⟨o, h1, h2, h3⟩
/-- a slice's parts -/
abbrev MO := En → Option (Option Int)
def oNone : MO := fun _ => some none
def oSome (f : ME) : MO := fun r => (f r).bind fun d => (intD d).map some
def lO (K : PySem.W.Frag) (f : MO) : TO := fun σ H Q => ∃ O0 r o, R K O0 H r σ ∧ f r = some o ∧ ∀ H', Same H H' → Q o H'
def DO (X : Cx) (e : Option Expr) (f : MO) : Prop := PO X e (lO X.K f)
theorem PO.conseq {e : Option Expr} {t t' : TO} (h : PO X e t) (i : ∀ σ H Q, t' σ H Q → t σ H Q) : PO X e t' := fun pins s σ H Q I q => h pins s σ H Q I (i σ H Q q)
theorem do_none : DO X none oNone := PO.conseq po_none fun σ H Q ⟨O0, r, o, hR, e, q⟩ => by
  unfold oNone at e; cases e
  exact q H (Same.refl H)
theorem do_some (ha : DE X a f) : DO X (some a) (oSome f) := PO.conseq (po_some ha) fun σ H Q ⟨O0, r, o, hR, e, q⟩ => by
  obtain ⟨d, e1, e2⟩ := bind_some e
  obtain ⟨i, e3, rfl⟩ := map_some e2
  cases intD_some e3
  exact ⟨O0, r, _, hR, e1, fun v H1 s1 i1 => ⟨i, by rw [Is.int_iff] at i1; exact i1, q H1 s1⟩⟩
def slD (d : D) (lo hi : Option Int) : Option D := match d with
  | .lst l => some (.lst (cutL l lo hi))
  | .tup l => if HT.sIx l.length 0 lo = 0 ∧ HT.sIx l.length l.length hi = l.length then none else some (.tup (cutL l lo hi))
  | .str s => if s.length ≤ sizeLine then some (.str (cutL s lo hi)) else none
  | _ => none
def mSl (f : ME) (lo hi : MO) : ME := fun r => (f r).bind fun d => (lo r).bind fun i => (hi r).bind fun j => slD d i j
def rSlA (K : PySem.W.Frag) : V → Option Int → Option Int → Hp → VK → Prop := fun x lo hi H Q => rSlL K x lo hi H Q ∨ rSlT K x lo hi H Q ∨ rSlS x lo hi H Q
theorem IsL.cut {K : PySem.W.Frag} {O : Addr → Prop} {H : Hp} {l : List D} {xs : List V} (h : IsL K O H l xs) (lo hi : Option Int) : IsL K O H (cutL l lo hi) (cutV xs lo hi) := by
  unfold cutL cutV
  rw [h.length]
  exact (h.drop _).take _
theorem de_sl {lo hi : Option Expr} {fl fh : MO} (ha : DE X a f) (hl : DO X lo fl) (hh : DO X hi fh) : DE X (.Subscript a (.Slice lo hi none p2) pos) (mSl f fl fh) := by
  refine PE.conseq (pe_slice (r := rSlA X.K) (sl_list.or (sl_tup.or sl_str)) ha hl hh) fun σ H Q hq => ?_
  obtain ⟨O0, r, d, hR, e, q⟩ := hq
  obtain ⟨x, e1, e⟩ := bind_some e
  obtain ⟨i, e2, e⟩ := bind_some e
  obtain ⟨j, e3, e⟩ := bind_some e
  refine ⟨O0, r, x, hR, e1, fun v H1 s1 i1 => ⟨O0, r, i, hR.same s1, e2, fun H2 s2 => ⟨O0, r, j, hR.same (s1.trans s2), e3, fun H3 s3 => ?_⟩⟩⟩
  have s13 := (s1.trans s2).trans s3
  have R3 := hR.same s13
  have i3 := i1.same (s2.trans s3) (hR.same s1).ol
  cases x <;> first | (simp only [slD, reduceCtorEq] at e; done) | skip
  · simp only [slD] at e
    split at e
    · rename_i hl'
      cases e
      rw [Is.str_iff] at i3
      refine .inr (.inr ⟨_, i3, by rw [str_len]; exact hl', q _ H3 s13 (by rw [Is.str_iff])⟩)
    · cases e
  · simp only [slD] at e
    split at e
    · cases e
    · rename_i hw
      cases e
      rw [Is.tup_iff] at i3
      obtain ⟨p, xs, rfl, hs, il⟩ := i3
      refine .inr (.inl ⟨p, xs, rfl, hs, by rw [← il.length]; exact hw, fun t ht => q _ _ (s13.trans (same_upd ht)) ?_⟩)
      rw [Is.tup_iff]
      exact ⟨t, _, rfl, SqT.of upd_same, (il.cut i j).same (same_upd ht) R3.ol⟩
  · simp only [slD, Option.some.injEq] at e
    subst e
    rw [Is.lst_iff] at i3
    obtain ⟨p, xs, rfl, hs, il⟩ := i3
    refine .inl ⟨p, xs, rfl, hs.sq, fun t ht => q _ _ (s13.trans (same_upd ht)) ?_⟩
    rw [Is.lst_iff]
    exact ⟨t, _, rfl, .inl ⟨R3.nofresh ht, .inl upd_same⟩, (il.cut i j).same (same_upd ht) R3.ol⟩
end
end DD
namespace DD
open PySem PySem.Spec PyProof.Rows L2 PySem.StrLaws

/-! ### xs[::-1] -/
section
variable {prog : Program} {w : World} {A : Around} {E : Value → Shared → Prop} {s : Shared}
theorem rev_ad (n : Nat) : Builtin.Slice.sliceAdjust none none (-1) (n : Int) = ((n : Int) - 1, -1) := by
  unfold Builtin.Slice.sliceAdjust
  simp
theorem rev_pl (n : Nat) : Builtin.Slice.slicePlaces ((n : Int) - 1) (-1) (-1) = n := by
  unfold Builtin.Slice.slicePlaces
  have h1 : ¬ ((-1 : Int) > 0) := by omega
  simp only [h1, if_false]
  split
  · have : -(-1 : Int) = 1 := by omega
    rw [this, Int.ediv_one]; omega
  · omega
theorem rev_ap {sl : Addr} {t : Tok} {n : Nat} {Q : Int × Int × Nat → Shared → Prop} (hs : s.heap.IsSliceOf sl .none .none (.int (-1) t)) (h : Q ((n : Int) - 1, -1, n) s) : wpAny (model prog w) A (Builtin.Slice.sliceApplied (.ref sl) (pure (n : Int))) Q E s := by
  obtain ⟨os, ho, hc, hd⟩ := id hs
  unfold Builtin.Slice.sliceApplied Builtin.Slice.sliceFields
  refine wpAny_bind (wpAny_bind (wpAny_field ho hd (x := .none) rfl (wpAny_bind (wpAny_field ho hd (x := .none) rfl (wpAny_bind (wpAny_field ho hd (x := .int (-1) t) rfl (wpAny_pure (?_))))))))
  refine wpAny_bind (slicePart_int (?_)); show wpAny _ _ (if ((-1 : Int) == 0) = true then _ else _) _ _ s; rw [if_neg (by decide)]
  refine wpAny_bind (slicePart_none (wpAny_bind (slicePart_none (wpAny_bind (wpAny_pure (?_))))))
  show wpAny _ _ (match Builtin.Slice.sliceAdjust none none (-1) (n : Int) with | (lo, hi) => pure (lo, (-1 : Int), Builtin.Slice.slicePlaces lo hi (-1))) _ _ s
  rw [rev_ad n]; show wpAny _ _ (pure ((n : Int) - 1, (-1 : Int), Builtin.Slice.slicePlaces ((n : Int) - 1) (-1) (-1))) _ _ s; rw [rev_pl]
  exact wpAny_pure h
theorem fm_map {α β : Type} {F : α → Option β} {G : α → β} : ∀ (l : List α), (∀ m ∈ l, F m = some (G m)) → l.filterMap F = l.map G
  | [], _ => rfl
  | a :: l, h => by
    rw [List.filterMap_cons, h a List.mem_cons_self, List.map_cons, fm_map l fun m hm => h m (List.mem_cons_of_mem _ hm)]
theorem rev_pick (xs : Array Value) : ((List.range xs.size).filterMap fun (m : Nat) => xs[((xs.size : Int) - 1 + (m : Int) * (-1)).toNat]?).toArray = xs.toList.reverse.toArray := by
  congr 1
  apply List.ext_getElem?
  intro k
  have e : ∀ m, m < xs.size → xs[((xs.size : Int) - 1 + (m : Int) * (-1)).toNat]? = some (xs.toList.reverse.getD m .none) := by
    intro m hm
    have h1 : ((xs.size : Int) - 1 + (m : Int) * (-1)).toNat = xs.size - 1 - m := by omega
    rw [h1, List.getD_eq_getElem?_getD, List.getElem?_reverse (by simpa using hm)]
    have h2 : xs.size - 1 - m < xs.size := by omega
    simp [h2]
  have e2 : (List.range xs.size).filterMap (fun (m : Nat) => xs[((xs.size : Int) - 1 + (m : Int) * (-1)).toNat]?) = (List.range xs.size).map fun m => xs.toList.reverse.getD m .none := by
    exact fm_map _ fun m hm => e m (List.mem_range.mp hm)
  rw [e2, List.getElem?_map]
  by_cases hk : k < xs.size
  · rw [List.getElem?_range hk, List.getElem?_eq_getElem (by simpa using hk)]
    simp [List.getD_eq_getElem?_getD, hk]
  · rw [List.getElem?_eq_none (by simpa using hk), List.getElem?_eq_none (by simpa using hk)]; rfl
theorem rev_tup {t sl : Addr} {its : Array Value} {tk : Tok} {Q : Value → Shared → Prop} (ht : IsTup s.heap t its) (hs : s.heap.IsSliceOf sl .none .none (.int (-1) tk)) (hsz : its.size ≤ sizeLine)
    (h : Q (.ref s.heap.objs.size) { s with heap := s.heap.push { cls := .type "tuple", data := .seq its.toList.reverse.toArray } }) : wpAny (model prog w) A (getItem (.ref t) (.ref sl)) Q E s := by
  have hz : sizeOk (.seq its.toList.reverse.toArray) := by show its.toList.reverse.toArray.size ≤ sizeLine; simpa using hsz
  obtain ⟨os, ho, hc, hd⟩ := id hs
  have hT : s.TypeIs (.ref sl) "slice" := ⟨os, ho, hc⟩
  unfold getItem
  try with_reducible refine wpAny_holding ?_
  first | refine wpAny_bind (wpAny_pure ?_) | skip
  refine wpAny_bind (wpAny_sequenceKey ht.typeIs (by decide) ?_)
  refine wpAny_bind (wpAny_callSpecial?_slot (name := Str.ofString "__getitem__") ht.typeIs PyProof.Rows.slot_tuple_getitem (wpAny_call_entry PyProof.Rows.slot_tuple_getitem ht.typeIs entry_tuple_getitem (?_) (args_tuple_getitem _ _)))
  show wpAny _ _ (Builtin.Tuple.tupleItemsOf (.ref t) >>= _) _ _ s; refine wpAny_bind (tupleItemsOf_ ht (wpAny_bind (wpAny_typeOf hT (?_)))); rw [if_pos (by decide)]; refine wpAny_bind (rev_ap hs (?_))
  show wpAny _ _ (if (((its.size : Int) - 1) == 0 && (-1 : Int) == 1 && its.size == its.size) = true then _ else _) _ _ s
  rw [if_neg (by simp), rev_pick]
  first
    | exact wpAny_bind (m := Builtin.Tuple.tupleExact _) (wpAny_newObj_type (wpAny_pure ⟨_, rfl, wpAny_pure h⟩) hz)
    | exact wpAny_bind (m := Builtin.Tuple.tupleExact _) (wpAny_newObj_type (wpAny_bind (wpAny_pure (wpAny_pure ⟨_, rfl, wpAny_pure h⟩))) hz)
    | exact wpAny_bind (wpAny_bind (m := Builtin.Tuple.tupleExact _) (wpAny_newObj_type (wpAny_pure (wpAny_pure ⟨_, rfl, wpAny_pure h⟩)) hz))
    | exact wpAny_bind (wpAny_bind (m := Builtin.Tuple.tupleExact _) (wpAny_newObj_type (wpAny_pure ⟨_, rfl, wpAny_pure h⟩) hz))
end
section
variable {X : Cx} {pos p2 p3 : Pos} {a b : Expr} {f g : ME} {j : Nat}
def tRev (K : PySem.W.Frag) (ta : TE) : TE := fun σ H Q => ta σ H fun x H1 => (∃ p xs, x = .ref p ∧ SqL K H1 p xs ∧ ∀ q, H1 q = none → Q (.ref q) (upd H1 q (.lst xs.reverse))) ∨ (∃ p xs, x = .ref p ∧ SqT K H1 p xs ∧ ∀ q, H1 q = none → Q (.ref q) (upd H1 q (.tup xs.reverse)))
theorem pe_rev {ta : TE} (he : PE X a ta) : PE X (.Subscript a (.Slice none none (some (.UnaryOp .USub (.Constant (.int 1) j p3) pos)) p2) pn) (tRev X.K ta) := by
  intro pins s σ H Q I h
  refine Subscript_ (thn (he pins s σ H _ I h) fun v s1 ⟨x, H1, I1, r1, q1⟩ => ?_)
  refine wpAny_Slice ?_
  rw [evalPart_none]
  refine wpAny_pure (wpAny_pure ?_); rw [evalPart_some]
  have hst : PE X (.UnaryOp .USub (.Constant (.int 1) j p3) pos) (tUn (rU fun i => .int (-i)) (tC (.int 1))) := pe_un un_neg pe_int
  refine thn (hst pins s1 σ H1 (fun w H' => w = .int (-1) ∧ H' = H1) I1 ⟨1, rfl, rfl, rfl⟩) fun u s2 ⟨y, H2, I2, r2, q2, eH⟩ => ?_
  subst eH q2
  obtain ⟨t, rfl⟩ := r2
  have I4 : Inv X pins σ H2 { s2 with heap := s2.heap.push { cls := .type "slice", data := .fields #[.none, .none, .int (-1) t] } } := I2.kept (t' := s2.toks) fun b ob q => Heap.get?_push_of_some _ q
  have hsl : ({ s2 with heap := s2.heap.push { cls := .type "slice", data := .fields #[.none, .none, .int (-1) t] } } : Shared).heap.IsSliceOf s2.heap.objs.size .none .none (.int (-1) t) := Heap.IsSliceOf.new ..
  rcases q1 with ⟨p, xs, rfl, hx, q⟩ | ⟨p, xs, rfl, hx, q⟩
  · cases r1
    obtain ⟨its, r, pl, hz⟩ := I4.list hx
    have hlen := r.length
    refine tail_any (ops := [.ref p, .ref s2.heap.objs.size]) pl.isList.typeIs slot_list_getitem.lookup (wpAny_getItem_list_slice pl.isList hsl .none .none (.int (-1) t) (by simp) ?_ (by simp only [List.size_toArray]; omega)) (by with_unfolding_all rfl)
    rw [PySem.W.krv_pick]
    exact ⟨.ref _, _, I4.lnew (t' := s2.toks) r.reverse (by rw [List.length_reverse]; exact hz), rfl, q _ I4.fresh⟩
  · cases r1
    obtain ⟨its, r, pl, hz⟩ := I4.tuple hx
    have hlen := r.length
    refine tail_any (ops := [.ref p, .ref s2.heap.objs.size]) pl.typeIs PyProof.Rows.slot_tuple_getitem.lookup (rev_tup pl hsl (by simp only [List.size_toArray]; omega) ?_) (by with_unfolding_all rfl)
    refine ⟨.ref _, _, I4.laid (t' := s2.toks) (o := .tup xs.reverse) (fun b ob q => Heap.get?_push_of_some _ q) (Nat.le_refl _) ?_, rfl, q _ (I4.hok.fresh (Nat.le_refl _))⟩
    exact ⟨by rw [List.length_reverse]; exact hz, _, r.reverse, IsTup.new _ _⟩
def revD : D → Option D
  | .lst l => some (.lst l.reverse)
  | .tup l => some (.tup l.reverse)
  | _ => none
theorem de_rev (ha : DE X a f) : DE X (.Subscript a (.Slice none none (some (.UnaryOp .USub (.Constant (.int 1) j p3) pos)) p2) pn) (mUn revD f) := by
  refine PE.conseq (pe_rev ha) fun σ H Q hq => ?_
  obtain ⟨O0, r, d, hR, e, q⟩ := hq
  obtain ⟨x, e1, e2⟩ := bind_some e
  refine ⟨O0, r, x, hR, e1, fun v H1 s1 i1 => ?_⟩
  have R1 := hR.same s1
  cases x <;> first | (simp only [revD, reduceCtorEq] at e2; done) | skip
  · simp only [revD, Option.some.injEq] at e2
    subst e2
    rw [Is.tup_iff] at i1
    obtain ⟨p, xs, rfl, hs, il⟩ := i1
    refine .inr ⟨p, xs, rfl, hs, fun t ht => q _ _ (s1.trans (same_upd ht)) ?_⟩
    rw [Is.tup_iff]
    exact ⟨t, _, rfl, SqT.of upd_same, il.reverse.same (same_upd ht) R1.ol⟩
  · simp only [revD, Option.some.injEq] at e2
    subst e2
    rw [Is.lst_iff] at i1
    obtain ⟨p, xs, rfl, hs, il⟩ := i1
    refine .inl ⟨p, xs, rfl, hs.sq, fun t ht => q _ _ (s1.trans (same_upd ht)) ?_⟩
    rw [Is.lst_iff]
    exact ⟨t, _, rfl, .inl ⟨R1.nofresh ht, .inl upd_same⟩, il.reverse.same (same_upd ht) R1.ol⟩
def mRevF (fl : ML) : ML := fun r => (fl r).map List.reverse
theorem df_rev {fl : ML} (ha : DB X a fl) : DF X (.Subscript a (.Slice none none (some (.UnaryOp .USub (.Constant (.int 1) j p3) pos)) p2) pn) (mRevF fl) := by
  refine PE.conseq (pe_rev ha) fun σ H Q hq => ?_
  obtain ⟨O0, r, l', hR, e, q⟩ := hq
  obtain ⟨l, e1, rfl⟩ := map_some e
  refine ⟨O0, r, l, hR, e1, fun p xs H1 s1 sq il => .inl ⟨p, xs, rfl, sq, fun t ht => q t _ _ (s1.trans (same_upd ht)) (s1.free ht) upd_same ?_⟩⟩
  refine IsL.mono (Same.kp (same_upd ht) _) (hR.same s1).ol (fun b z n => ?_) _ _ il.reverse
  rcases z with z | z
  · exact z
  · subst z; exact absurd ht n
/-! ### sep.join(list), text.split(sep) -/
def strsD : List D → Option (List (List Nat))
  | [] => some []
  | .str s :: r => (strsD r).map (s :: ·)
  | _ => none
def joinC (sep : List Nat) : List (List Nat) → List Nat
  | [] => []
  | [s] => s
  | s :: r => s ++ sep ++ joinC sep r
theorem strsD_ok {K : PySem.W.Frag} {O : Addr → Prop} {H : Hp} : ∀ {l : List D} {ss : List (List Nat)} {vs : List V}, strsD l = some ss → IsL K O H l vs → vs = ss.map fun s => V.str ⟨s.toArray⟩
  | [], ss, vs, e, il => by cases e; unfold IsL at il; subst il; rfl
  | d :: l, ss, vs, e, il => by
    unfold IsL at il
    obtain ⟨v, r, rfl, i1, i2⟩ := il
    cases d <;> first | (simp only [strsD, reduceCtorEq] at e; done) | skip
    simp only [strsD] at e
    obtain ⟨ms, e1, rfl⟩ := map_some e
    rw [Is.str_iff] at i1
    rw [i1, strsD_ok e1 i2]; rfl
theorem strsAre_of : ∀ {ss : List (List Nat)} {us : List Value}, Vals (ss.map fun s => V.str ⟨s.toArray⟩) us → StrsAre us (ss.map fun s => (⟨s.toArray⟩ : Str))
  | [], us, r => by rw [List.map_nil] at r; cases r; exact .nil
  | s :: ss, us, r => by
    rw [List.map_cons] at r
    cases r with
    | cons r1 r2 =>
      obtain ⟨t, e⟩ := r1
      subst e
      exact .cons _ t (strsAre_of r2)
theorem join_eq (sep : List Nat) : ∀ ss : List (List Nat), Str.join (⟨sep.toArray⟩ : Str) (ss.map fun s => (⟨s.toArray⟩ : Str)) = ⟨(joinC sep ss).toArray⟩
  | [] => rfl
  | [s] => rfl
  | s :: t :: r => by
    have ih := join_eq sep (t :: r)
    show (⟨s.toArray⟩ : Str) ++ ⟨sep.toArray⟩ ++ Str.join _ ((t :: r).map fun s => (⟨s.toArray⟩ : Str)) = _
    rw [ih, str_app, str_app]
    rfl
def rJoin (K : PySem.W.Frag) : V → List V → Hp → VK → Prop := fun x vs H Q => ∃ sep p ss, x = .str ⟨sep.toArray⟩ ∧ vs = [.ref p] ∧ SqL K H p (ss.map fun s => V.str ⟨s.toArray⟩) ∧ (ss.map List.length).sum + ss.length * sep.length ≤ 16777216 ∧ Q (.str ⟨(joinC sep ss).toArray⟩) H
theorem mt_join : MtR X "str.join" (rJoin X.K) := by
  intro pins s σ H x vs v us Q I rx rv hq
  obtain ⟨sep, p, ss, rfl, rfl, hs, hl, q⟩ := hq
  obtain ⟨t, rfl⟩ := rx
  obtain ⟨u, rfl, ru⟩ := Vals.one rv
  cases ru
  obtain ⟨its, r, pl, hz⟩ := I.list hs
  refine join_list pl.isList (ys := ss.map fun s => (⟨s.toArray⟩ : Str)) (by simpa using strsAre_of r) ?_ fun t' k => ⟨.str _, H, I.tok k, ⟨t', rfl⟩, ?_⟩
  · have e : (ss.map fun s => (⟨s.toArray⟩ : Str)).map (·.length) = ss.map List.length := by rw [List.map_map]; exact List.map_congr_left fun s _ => str_len s
    rw [e, List.length_map, str_len]; exact hl
  · show Q (.str (Txt.join _ _)) H
    unfold Txt.join
    rw [glued_eq_join, join_eq]; exact q
def mJoin (f : ME) (fl : ML) : ME := fun r => (f r).bind fun d => match d with
  | .str sep => (fl r).bind fun l => (strsD l).bind fun ss => if (ss.map List.length).sum + ss.length * sep.length ≤ 16777216 then some (.str (joinC sep ss)) else none
  | _ => none
theorem de_join {fl : ML} {apos cpos : Pos} (ho : DE X a f) (ha : DB X b fl) (hbase : attributeBase a "join" X.env (eval a X.env) = eval a X.env := by rfl) (hline : (apos.endLine == cpos.line) = true := by rfl)
    (hfew : ((backTo cpos (starEach [b] X.env)).all (fun x => !x.1) && (backToKw cpos (keywordEach [] X.env)).all (fun x => x.1.isSome) && decide ([b].length + ([] : List Keyword).length + (if ([] : List Keyword).isEmpty then 0 else 1) < 30)) = true := by rfl)
    (hs : starEach [b] X.env = (false, eval b X.env) :: starEach [] X.env := by rfl) : DE X (.Call (.Attribute a "join" apos) [b] [] cpos) (mJoin f fl) := by
  refine PE.conseq (pe_bm PySem.F.plainAttrs_str PySem.F.slot_str_join PySem.F.type_str_join mt_join ho (pa_cons ha pa_nil hs) hbase hfew hline hs) fun σ H Q hq => ?_
  obtain ⟨O0, r, d, hR, e, q⟩ := hq
  obtain ⟨x, e1, e2⟩ := bind_some e
  refine ⟨O0, r, x, hR, e1, fun v H1 s1 i1 => ?_⟩
  cases x <;> first | (simp only [reduceCtorEq] at e2; done) | skip
  simp only at e2
  obtain ⟨l, e3, e4⟩ := bind_some e2
  obtain ⟨ss, e5, e6⟩ := bind_some e4
  rw [Is.str_iff] at i1
  subst i1
  split at e6
  · rename_i hl
    cases e6
    refine ⟨rfl, O0, r, l, hR.same s1, e3, fun p xs H2 s2 sq il => ?_⟩
    have ex := strsD_ok e5 il
    subst ex
    exact ⟨_, p, ss, rfl, rfl, sq, hl, q _ H2 (s1.trans s2) (by rw [Is.str_iff])⟩
  · cases e6
end
end DD
namespace DD
open PySem PySem.Spec PyProof.Rows L2 PySem.StrLaws PySem.Builtin.Str

/-! ### text.split(sep) -/
section
variable {X : Cx} {pos : Pos} {a b : Expr} {f g : ME}
def rSplit : V → List V → Hp → VK → Prop := fun x vs H Q => ∃ z y, x = .str z ∧ vs = [.str y] ∧ (y.length == 0) = false ∧ z.length ≤ sizeLine ∧ (partsBetween z (occurrences z y 0 z.length (z.length + 1)) y.length).length ≤ sizeLine ∧ ∀ p, H p = none → Q (.ref p) (upd H p (.lst ((Txt.split z y).map V.str)))
theorem vals_strs : ∀ (l : List (Str × Tok)), Vals ((l.map (·.1)).map V.str) (strValues l)
  | [] => .nil
  | (x, t) :: l => .cons ⟨t, rfl⟩ (vals_strs l)
theorem split_len (z y : Str) (h : (partsBetween z (occurrences z y 0 z.length (z.length + 1)) y.length).length ≤ sizeLine) : (Txt.split z y).length ≤ sizeLine := by
  unfold Txt.split
  have h1 : 1 ≤ sizeLine := by decide
  split
  · exact h1
  · split
    · exact h1
    · exact h
theorem mt_split : MtR X "str.split" rSplit := by
  intro pins s σ H x vs v us Q I rx rv hq
  obtain ⟨z, y, rfl, rfl, hy, hz, hn, q⟩ := hq
  obtain ⟨t, rfl⟩ := rx
  obtain ⟨uu, rfl, u, rfl⟩ := Vals.one rv
  have lay : ∀ (l : List (Str × Tok)) (tk : Nat), l.map (·.1) = Txt.split z y → EP X pins σ Q (.ref s.heap.objs.size) { s with heap := s.heap.push { cls := .type "list", data := .seq (strValues l).toArray }, toks := tk } := fun l tk e => by
    have hv := vals_strs l
    rw [e] at hv
    exact ⟨.ref _, _, I.lnew (t' := tk) hv (by rw [List.length_map]; exact split_len z y hn), rfl, q _ I.fresh⟩
  cases h1 : (decide (z.length < y.length) || decide (strKind z < strKind y)) with
  | true => exact call_meets F.slot_str_split (typeIs_str _ _ _) F.entry_str_split (F.args_str_split_2 _ _) (meets_str_split_cannot_occur z y t u h1) (lay [(z, t)] s.toks (by unfold Txt.split; rw [if_pos h1]; rfl))
  | false =>
    cases hf : (occurrences z y 0 z.length (z.length + 1)).isEmpty with
    | true => exact call_meets F.slot_str_split (typeIs_str _ _ _) F.entry_str_split (F.args_str_split_2 _ _) (meets_str_split_not_found z y t u h1 hy hf) (lay [(z, t)] s.toks (by unfold Txt.split; rw [if_neg (ne_true_of_eq_false h1), if_pos hf]; rfl))
    | false =>
      refine call_meets F.slot_str_split (typeIs_str _ _ _) F.entry_str_split (F.args_str_split_2 _ _) (meets_str_split_sep z y t u h1 hy hf hz hn) ?_
      show EP X pins σ Q _ { s with toks := _, heap := s.heap.push { cls := .type "list", data := .seq (strsFrom s.toks (partsBetween z (occurrences z y 0 z.length (z.length + 1)) y.length)).toArray } }
      rw [strsFrom_eq]
      exact lay (numbered s.toks _) _ ((numbered_texts _ _).trans (by unfold Txt.split; rw [if_neg (ne_true_of_eq_false h1), if_neg (ne_true_of_eq_false hf)]))
/-- the texts between single signs c -/
def splitC (c : Nat) : List Nat → List (List Nat)
  | [] => [[]]
  | x :: r => if x = c then [] :: splitC c r else match splitC c r with
    | [] => [[x]]
    | s :: t => (x :: s) :: t
def splitS (s sep : List Nat) : List (List Nat) := (Txt.split ⟨s.toArray⟩ ⟨sep.toArray⟩).map fun x => x.cps.toList
def mSplit (f g : ME) : ML := fun r => (f r).bind fun d => (g r).bind fun e => match d, e with
  | .str s, .str sep => if sep.length ≠ 0 ∧ s.length < sizeLine then some ((splitS s sep).map .str) else none
  | _, _ => none
theorem chain_len {z y : Str} {n : Nat} (hy : 1 ≤ y.length) : ∀ (cuts : List Nat) (a f : Nat), ChainTo z y n a cuts f → a ≤ n → a + cuts.length ≤ n
  | [], a, f, _, h => h
  | c :: r, a, f, h, _ => by
    obtain ⟨h1, ⟨h2, _⟩, h3⟩ := h
    have := chain_len hy r (c + y.length) f h3 h2
    rw [List.length_cons]; omega
theorem occ_len (z y : Str) (hy : (y.length == 0) = false) : (partsBetween z (occurrences z y 0 z.length (z.length + 1)) y.length).length ≤ z.length + 1 := by
  rw [len_partsBetween]
  obtain ⟨e, hc⟩ := occ_chain z y (z.length + 1)
  have hy1 : 1 ≤ y.length := by have : y.length ≠ 0 := by simpa using hy
                                omega
  have := chain_len hy1 _ 0 e hc (Nat.zero_le _)
  omega
theorem isL_strs {K : PySem.W.Frag} {O : Addr → Prop} {H : Hp} : ∀ (ts : List Str), IsL K O H ((ts.map fun x => x.cps.toList).map D.str) (ts.map V.str)
  | [] => .nil
  | t :: ts => .cons (by rw [Is.str_iff]) (isL_strs ts)
theorem df_split {apos cpos : Pos} (ho : DE X a f) (ha : DE X b g) (hbase : attributeBase a "split" X.env (eval a X.env) = eval a X.env := by rfl) (hline : (apos.endLine == cpos.line) = true := by rfl)
    (hfew : ((backTo cpos (starEach [b] X.env)).all (fun x => !x.1) && (backToKw cpos (keywordEach [] X.env)).all (fun x => x.1.isSome) && decide ([b].length + ([] : List Keyword).length + (if ([] : List Keyword).isEmpty then 0 else 1) < 30)) = true := by rfl)
    (hs : starEach [b] X.env = (false, eval b X.env) :: starEach [] X.env := by rfl) : DF X (.Call (.Attribute a "split" apos) [b] [] cpos) (mSplit f g) := by
  refine PE.conseq (pe_bm PySem.F.plainAttrs_str PySem.F.slot_str_split PySem.F.type_str_split mt_split ho (pa_cons ha pa_nil hs) hbase hfew hline hs) fun σ H Q hq => ?_
  obtain ⟨O0, r, l, hR, e, q⟩ := hq
  obtain ⟨x, e1, e2⟩ := bind_some e
  obtain ⟨y, e3, e4⟩ := bind_some e2
  refine ⟨O0, r, x, hR, e1, fun v H1 s1 i1 => ?_⟩
  cases x <;> first | (simp only [reduceCtorEq] at e4; done) | skip
  cases y <;> first | (simp only [reduceCtorEq] at e4; done) | skip
  rename_i s sep
  simp only at e4
  split at e4
  · rename_i hl
    have e5 : (splitS s sep).map D.str = l := Option.some.inj e4
    subst e5
    rw [Is.str_iff] at i1
    subst i1
    refine ⟨rfl, O0, r, _, hR.same s1, e3, fun v2 H2 s2 i2 => ?_⟩
    rw [Is.str_iff] at i2
    have hy : ((⟨sep.toArray⟩ : Str).length == 0) = false := by rw [str_len]; simpa using hl.1
    have h5 := occ_len (⟨s.toArray⟩ : Str) ⟨sep.toArray⟩ hy
    have h6 : (⟨s.toArray⟩ : Str).length = s.length := str_len s
    refine ⟨_, _, rfl, by rw [i2], hy, by rw [h6]; omega, by omega, fun p hp => q p _ _ ((s1.trans s2).trans (same_upd hp)) ((s1.trans s2).free hp) upd_same ?_⟩
    exact isL_strs _
  · cases e4
end
end DD
namespace DD
open PySem PySem.Spec PyProof.Rows L2

/-! ### zip, enumerate, the signs of a text -/
section
variable {X : Cx} {a b : Expr} {f g : ME} {p pos : Pos} {elts : List Expr} {k : Nat} {tp : Pos}
def z2 (F : V → V → Hp → Prop) : List V → Hp → Prop
  | [x, y], H => F x y H
  | _, _ => False
theorem z2_inv {F : V → V → Hp → Prop} : ∀ {vs : List V} {H : Hp}, z2 F vs H → ∃ x y, vs = [x, y] ∧ F x y H
  | [x, y], _, h => ⟨x, y, rfl, h⟩
  | [], _, h => h.elim
  | [_], _, h => h.elim
  | _ :: _ :: _ :: _, _, h => h.elim
def z1 (F : V → Hp → Prop) : List V → Hp → Prop
  | [x], H => F x H
  | _, _ => False
theorem z1_inv {F : V → Hp → Prop} : ∀ {vs : List V} {H : Hp}, z1 F vs H → ∃ x, vs = [x] ∧ F x H
  | [x], _, h => ⟨x, rfl, h⟩
  | [], _, h => h.elim
  | _ :: _ :: _, _, h => h.elim
def tZip (K : PySem.W.Frag) (ta tb : TE) : TI := fun σ H R => ta σ H fun x H1 => tb σ H1 fun y H2 => ∃ u v, x = .ref u ∧ y = .ref v ∧
  (((∃ xs, SqL K H2 u xs) ∧ (∃ ys, SqL K H2 v ys) ∧ R (ItZ (SqL K) u v) H2) ∨ ((∃ xs, SqT K H2 u xs) ∧ (∃ ys, SqT K H2 v ys) ∧ R (ItZ (SqT K) u v) H2))
theorem adn (n : Nat) {i j : Nat} (h : i ≠ j) : @Ne Addr (n + i : Nat) (n + j : Nat) := fun e => h (Nat.add_left_cancel (show n + i = n + j from e))
theorem adn0 (n : Nat) {j : Nat} (h : 0 ≠ j) : @Ne Addr (n : Nat) (n + j : Nat) := fun e => h (Nat.add_left_cancel (show n + 0 = n + j from e))
theorem za5 (n : Nat) : ZA (n + 4) (n + 2) (n + 3) n (n + 1) := ⟨adn n (by decide), adn n (by decide), adn0 n (by decide), adn n (by decide), adn n (by decide), (adn0 n (by decide)).symm, adn n (by decide), (adn0 n (by decide)).symm, adn n (by decide), adn0 n (by decide)⟩
theorem pi_zip {ta tb : TE} (hg : Gl X "zip") (hm : X.mg "zip" = none) (ha : PE X a ta) (hb : PE X b tb) (hs : starEach [a, b] X.env = [(false, eval a X.env), (false, eval b X.env)] := by rfl) (hs2 : starEach [b] X.env = [(false, eval b X.env)] := by rfl) :
    PI X (.Tuple elts k tp) (.Call (.Name "zip" p) [a, b] [] pos) (tZip X.K ta tb) := by
  intro pins s σ H R I h
  have hA : PA X [a, b] (tCons ta (tCons tb tNil)) := pa_cons ha (pa_cons hb pa_nil (by rw [hs2]; rfl)) (by rw [hs, hs2])
  refine Call_ (ld_blt I hg hm PyProof.Rows.boot_zip (PyProof.Rows.callWith_type1 (thn (hA pos pins s σ H (z2 fun x y H2 => ∃ u v, x = .ref u ∧ y = .ref v ∧ (((∃ xs, SqL X.K H2 u xs) ∧ (∃ ys, SqL X.K H2 v ys) ∧ R (ItZ (SqL X.K) u v) H2) ∨ ((∃ xs, SqT X.K H2 u xs) ∧ (∃ ys, SqT X.K H2 v ys) ∧ R (ItZ (SqT X.K) u v) H2))) I h) fun us s1 ⟨vs, H1, I1, r1, q1⟩ => ?_) (by rw [hs, hs2]) (by rw [hs2]; rfl)))
  obtain ⟨_, _, rfl, u, v, rfl, rfl, q5⟩ := z2_inv q1
  obtain ⟨uu, vv, rfl, ru, rv⟩ := Vals.two r1
  cases ru
  cases rv
  have fp5 : ∀ b ∈ [s1.heap.objs.size + 4, s1.heap.objs.size + 2, s1.heap.objs.size + 3, s1.heap.objs.size, s1.heap.objs.size + 1], FpOk X pins H1 b := fun b hb => by
    have hle : s1.heap.objs.size ≤ b := by
      simp only [List.not_mem_nil, List.mem_cons, or_false] at hb
      rcases hb with h | h | h | h | h
      · rw [h]; exact Nat.le_add_right _ _
      · rw [h]; exact Nat.le_add_right _ _
      · rw [h]; exact Nat.le_add_right _ _
      · rw [h]; exact Nat.le_refl _
      · rw [h]; exact Nat.le_add_right _ _
    exact I1.fpOk hle (I1.hok.fresh hle)
  refine q5.elim (fun q2 => ?_) (fun q2 => ?_)
  · obtain ⟨⟨xs, hx⟩, ⟨ys, hy⟩, q⟩ := q2
    obtain ⟨its, _, pl, _⟩ := I1.list hx
    obtain ⟨its2, _, pl2, _⟩ := I1.list hy
    refine call_zip_2 pl.isList pl2.isList fun h' z1 z2 z3 z4 z5 _ kp => wpAny_pyIter_zip z1 ?_
    exact ⟨_, _, _, _, H1, rfl, I1.kept (t' := s1.toks) kp, turn_zip (dw_list X.K) u v _ _ _ _ _ (za5 _), ⟨z1, z2, ⟨_, _, z3⟩, z4, z5⟩, fp5, q⟩
  · obtain ⟨⟨xs, hx⟩, ⟨ys, hy⟩, q⟩ := q2
    obtain ⟨its, _, pl, _⟩ := I1.tuple hx
    obtain ⟨its2, _, pl2, _⟩ := I1.tuple hy
    refine ZZ.zcall pl pl2 fun h' z1 z2 z3 z4 z5 kp => wpAny_pyIter_zip z1 ?_
    exact ⟨_, _, _, _, H1, rfl, I1.kept (t' := s1.toks) kp, turn_zip (dw_tup X.K) u v _ _ _ _ _ (za5 _), ⟨z1, z2, ⟨_, _, z3⟩, z4, z5⟩, fp5, q⟩
def zipD (l m : List D) : List D := List.zipWith (fun x y => .tup [x, y]) l m
def mZip (f g : ME) : ML := fun r => (f r).bind fun d => (g r).bind fun e => match d, e with
  | .lst l, .lst m => some (zipD l m)
  | .tup l, .tup m => some (zipD l m)
  | _, _ => none
theorem zip_get {l m : List D} {i : Nat} {d : D} (h : (zipD l m)[i]? = some d) : ∃ x y, l[i]? = some x ∧ m[i]? = some y ∧ d = .tup [x, y] := by
  unfold zipD at h
  rw [List.getElem?_zipWith] at h
  cases e1 : l[i]? with
  | none => rw [e1] at h; cases h
  | some x =>
    cases e2 : m[i]? with
    | none => rw [e1, e2] at h; cases h
    | some y => rw [e1, e2] at h; cases h; exact ⟨x, y, rfl, rfl, rfl⟩
theorem yl_zip {K : PySem.W.Frag} {O M : Addr → Prop} {sq : Hp → Addr → List V → Prop} (mo : ∀ a, M a → O a) {H : Hp} {u v : Addr} {xs ys : List V} {l m : List D} (ol : OLst O H) (kx : ∀ H1, Keep M H H1 → sq H1 u xs) (ky : ∀ H1, Keep M H H1 → sq H1 v ys)
    (il : IsL K O H l xs) (im : IsL K O H m ys) : Ylds K O M H (ItZ sq u v) (zipD l m) := by
  intro i H1 O' kp oo
  have kp' : Keep O H H1 := fun b o e n => kp b o e fun z => n (mo b z)
  have hlen : (zipD l m).length = min l.length m.length := by simp [zipD]
  refine ⟨fun hi => ⟨?_, fun x H' y => ?_⟩, fun hi => ⟨xs, ys, kx H1 kp, ky H1 kp, ?_⟩⟩
  · obtain ⟨d, e⟩ := get_of_lt hi
    obtain ⟨dx, dy, e1, e2, _⟩ := zip_get e
    obtain ⟨vx, q1, _⟩ := il.get e1
    obtain ⟨vy, q2, _⟩ := im.get e2
    exact ⟨xs, ys, vx, vy, kx H1 kp, ky H1 kp, q1, q2⟩
  · obtain ⟨T, p, q, rfl, nT, rfl, h1, h2⟩ := y
    refine ⟨same_upd nT, fun d e => ?_⟩
    obtain ⟨dx, dy, e1, e2, rfl⟩ := zip_get e
    obtain ⟨vx, q1, i1⟩ := il.get e1
    obtain ⟨vy, q2, i2⟩ := im.get e2
    have p1 := h1 xs (kx H1 kp)
    have p2 := h2 ys (ky H1 kp)
    rw [q1] at p1; rw [q2] at p2
    cases p1; cases p2
    have kk : Keep O H (upd H1 T (.tup [p, q])) := fun b o e' n => by
      have := kp' b o e' n
      rw [upd_ne (ne_of_none this nT)]; exact this
    rw [Is.tup_iff]
    exact ⟨T, _, rfl, SqT.of upd_same, .cons (Is.mono kk ol oo _ _ i1) (.cons (Is.mono kk ol oo _ _ i2) .nil)⟩
  · have e1 := il.length
    have e2 := im.length
    rw [hlen] at hi
    omega
theorem keepL {K : PySem.W.Frag} {O M : Addr → Prop} (mo : ∀ a, M a → O a) {H : Hp} {a : Addr} {xs : List V} (h : LsAt K O H a xs) : ∀ H1, Keep M H H1 → SqL K H1 a xs := fun H1 k => h.imp (fun z => Rd.keep k (fun y => z.1 (mo _ y)) z.2) id
theorem keepT {K : PySem.W.Frag} {O M : Addr → Prop} (mo : ∀ a, M a → O a) {H : Hp} {a : Addr} {xs : List V} (ol : OLst O H) (h : SqT K H a xs) : ∀ H1, Keep M H H1 → SqT K H1 a xs := fun H1 k => SqT.keep (fun b o e n => k b o e fun z => n (mo b z)) ol h
theorem di_zip (hg : Gl X "zip") (hm : X.mg "zip" = none) (ha : DE X a f) (hb : DE X b g) (hs : starEach [a, b] X.env = [(false, eval a X.env), (false, eval b X.env)] := by rfl) (hs2 : starEach [b] X.env = [(false, eval b X.env)] := by rfl) :
    DI X (.Tuple elts k tp) (.Call (.Name "zip" p) [a, b] [] pos) (mZip f g) := by
  refine PI.conseq (pi_zip hg hm ha hb hs hs2) fun σ H Rr hq => ?_
  obtain ⟨O0, r, ds, hR, e, q⟩ := hq
  obtain ⟨x, e1, e⟩ := bind_some e
  obtain ⟨y, e2, e⟩ := bind_some e
  refine ⟨O0, r, x, hR, e1, fun v1 H1 s1 i1 => ⟨O0, r, y, hR.same s1, e2, fun v2 H2 s2 i2 => ?_⟩⟩
  have R2 := hR.same (s1.trans s2)
  have i1' := i1.same s2 (hR.same s1).ol
  have mo : ∀ a, MutAt r σ a → Ow O0 r σ a := fun a z => .inr z.own
  cases x <;> first | (simp only [reduceCtorEq] at e; done) | skip
  all_goals cases y <;> first | (simp only [reduceCtorEq] at e; done) | skip
  · simp only [Option.some.injEq] at e
    subst e
    rw [Is.tup_iff] at i1' i2
    obtain ⟨u, xs, rfl, hx, il⟩ := i1'
    obtain ⟨v, ys, rfl, hy, im⟩ := i2
    exact ⟨u, v, rfl, rfl, .inr ⟨⟨xs, hx⟩, ⟨ys, hy⟩, q _ H2 (s1.trans s2) (yl_zip mo R2.ol (keepT mo R2.ol hx) (keepT mo R2.ol hy) il im)⟩⟩
  · simp only [Option.some.injEq] at e
    subst e
    rw [Is.lst_iff] at i1' i2
    obtain ⟨u, xs, rfl, hx, il⟩ := i1'
    obtain ⟨v, ys, rfl, hy, im⟩ := i2
    exact ⟨u, v, rfl, rfl, .inl ⟨⟨xs, hx.sq⟩, ⟨ys, hy.sq⟩, q _ H2 (s1.trans s2) (yl_zip mo R2.ol (keepL mo hx) (keepL mo hy) il im)⟩⟩
/-- enumerate of a list -/
theorem pi_enum {ta : TE} (hg : Gl X "enumerate") (hm : X.mg "enumerate" = none) (ha : PE X a ta) (hs : starEach [a] X.env = [(false, eval a X.env)] := by rfl) :
    PI X (.Tuple elts k tp) (.Call (.Name "enumerate" p) [a] [] pos) (fun σ H R => ta σ H fun x H1 => ∃ u, x = .ref u ∧ (∃ xs, SqL X.K H1 u xs) ∧ R (ItE X.K u) H1) := by
  intro pins s σ H R I h
  have hA : PA X [a] (tCons ta tNil) := pa_cons ha pa_nil (by rw [hs]; rfl)
  refine Call_ (ld_blt I hg hm PyProof.Rows.boot_enumerate (PyProof.Rows.callWith_type1 (thn (hA pos pins s σ H (z1 fun x H1 => ∃ u, x = .ref u ∧ (∃ xs, SqL X.K H1 u xs) ∧ R (ItE X.K u) H1) I h) fun us s1 ⟨vs, H1, I1, r1, q1⟩ => ?_) hs rfl))
  obtain ⟨_, rfl, u, rfl, ⟨xs, hx⟩, q⟩ := z1_inv q1
  obtain ⟨uu, rfl, ru⟩ := Vals.one r1
  cases ru
  obtain ⟨its, _, pl, _⟩ := I1.list hx
  refine call_enumerate_list pl.isList fun h' z1 z2 _ kp => wpAny_pyIter_enum z1 ?_
  refine ⟨_, [s1.heap.objs.size + 1, s1.heap.objs.size], _, _, H1, rfl, I1.kept (t' := s1.toks) kp, turn_enum u _ _ (adn0 _ (by decide)).symm, ⟨⟨_, z1⟩, z2⟩, fun b hb => ?_, q⟩
  have hle : s1.heap.objs.size ≤ b := by
    simp only [List.not_mem_nil, List.mem_cons, or_false] at hb
    rcases hb with h | h
    · rw [h]; exact Nat.le_add_right _ _
    · rw [h]; exact Nat.le_refl _
  exact I1.fpOk hle (I1.hok.fresh hle)
def enumD (l : List D) : List D := l.zipIdx.map fun p => .tup [.int (p.2 : Nat), p.1]
def mEnum (f : ME) : ML := fun r => (f r).bind fun d => match d with
  | .lst l => some (enumD l)
  | _ => none
theorem enum_get {l : List D} {i : Nat} {d : D} (h : (enumD l)[i]? = some d) : ∃ x, l[i]? = some x ∧ d = .tup [.int i, x] := by
  unfold enumD at h
  rw [List.getElem?_map, List.getElem?_zipIdx] at h
  cases e1 : l[i]? with
  | none => rw [e1] at h; cases h
  | some x => rw [e1] at h; simp at h; exact ⟨x, rfl, h.symm⟩
theorem di_enum (hg : Gl X "enumerate") (hm : X.mg "enumerate" = none) (ha : DE X a f) (hs : starEach [a] X.env = [(false, eval a X.env)] := by rfl) : DI X (.Tuple elts k tp) (.Call (.Name "enumerate" p) [a] [] pos) (mEnum f) := by
  refine PI.conseq (pi_enum hg hm ha hs) fun σ H Rr hq => ?_
  obtain ⟨O0, r, ds, hR, e, q⟩ := hq
  obtain ⟨x, e1, e⟩ := bind_some e
  refine ⟨O0, r, x, hR, e1, fun v1 H1 s1 i1 => ?_⟩
  have R1 := hR.same s1
  cases x <;> first | (simp only [reduceCtorEq] at e; done) | skip
  rename_i l
  simp only [Option.some.injEq] at e
  subst e
  rw [Is.lst_iff] at i1
  obtain ⟨u, xs, rfl, hx, il⟩ := i1
  refine ⟨u, rfl, ⟨xs, hx.sq⟩, q _ H1 s1 ?_⟩
  intro i H2 O' kp oo
  have kp' : Keep (Ow O0 r σ) H1 H2 := fun b o e n => kp b o e fun z => n (.inr z.own)
  have sq2 := keepL (M := MutAt r σ) (fun a z => .inr z.own) hx H2 kp
  have hlen : (enumD l).length = l.length := by simp [enumD]
  refine ⟨fun hi => ⟨?_, fun y H' yy => ?_⟩, fun hi => ⟨xs, sq2, by rw [← il.length, ← hlen]; exact hi.symm⟩⟩
  · obtain ⟨d, ed⟩ := get_of_lt hi
    obtain ⟨dx, ex, _⟩ := enum_get ed
    obtain ⟨vx, q1, _⟩ := il.get ex
    exact ⟨xs, vx, sq2, q1⟩
  · obtain ⟨T, w, rfl, nT, rfl, h1⟩ := yy
    refine ⟨same_upd nT, fun d ed => ?_⟩
    obtain ⟨dx, ex, rfl⟩ := enum_get ed
    obtain ⟨vx, q1, i1⟩ := il.get ex
    have p1 := h1 xs sq2
    rw [q1] at p1
    cases p1
    have kk : Keep (Ow O0 r σ) H1 (upd H2 T (.tup [.int i, w])) := fun b o e' n => by
      have := kp' b o e' n
      rw [upd_ne (ne_of_none this nT)]; exact this
    rw [Is.tup_iff]
    exact ⟨T, _, rfl, SqT.of upd_same, .cons (by rw [Is.int_iff]) (.cons (Is.mono kk R1.ol oo _ _ i1) .nil)⟩
end
end DD
namespace DD
open PySem PySem.Spec PyProof.Rows L2

/-! ### an owned list is given up: a plain value from here on -/
def sRel (i : Nat) (g : MS) : MS := fun r => match r[i]? with
  | some (.o l) => g (r.set i (.v (.lst l)))
  | _ => none
theorem R.rel {K : PySem.W.Frag} {O0 : Addr → Prop} {H : Hp} {r : En} {σ : St} {i : Nat} {l : List D} (h : R K O0 H r σ) (e : r[i]? = some (.o l)) : R K O0 H (r.set i (.v (.lst l))) σ ∧ Kp H r σ H (r.set i (.v (.lst l))) σ := by
  have hi : i < r.length := (List.getElem?_eq_some_iff.mp e).1
  obtain ⟨a, xs, e1, e2, e3⟩ := h.own i l (by rw [e]; rfl)
  have sub : ∀ {q : Sl → Option (List D)} (_ : ∀ d, q (.v d) = none) b, AtS q (r.set i (.v (.lst l))) σ b → AtS q r σ b := fun {q} hq b ⟨j, m, ej, qj⟩ => by
    by_cases hj : i = j
    · subst hj
      rw [get_set_eq hi] at ej
      have ej' : q (.v (.lst l)) = some m := ej
      rw [hq] at ej'; cases ej'
    · rw [get_set_ne hj] at ej; exact ⟨j, m, ej, qj⟩
  have subO : ∀ b, Ow O0 (r.set i (.v (.lst l))) σ b → H b ≠ none → Ow O0 r σ b := fun b z _ => z.imp id (sub (fun _ => rfl) b)
  have na : ¬ Ow O0 (r.set i (.v (.lst l))) σ a := fun z => by
    rcases z with z | ⟨j, m, ej, qj⟩
    · exact h.loc i l a (.inl e) e1 z
    · have hj : i ≠ j := fun z => by subst z; rw [get_set_eq hi] at ej; cases ej
      rw [get_set_ne hj] at ej
      exact hj (h.apart i j a l m (by rw [e]; rfl) ej e1 qj)
  have ne : ∀ (j : Nat) (m : List D), ((r.set i (.v (.lst l)))[j]?).bind Sl.own = some m → i ≠ j := fun j m ej z => by subst z; rw [get_set_eq hi] at ej; cases ej
  refine ⟨⟨by simp [h.len], fun j d ej => ?_, fun j m ej => ?_, fun j k b m n e4 e5 q1 q2 => ?_, h.o0, fun j m b ej q => ?_, fun j m b ej q => ?_⟩, ⟨fun b o eb _ => eb, fun b eb => eb, fun b ys eb => ⟨ys, eb⟩, fun b z => .inl (sub (fun _ => rfl) b z), fun b z => .inl (sub (fun _ => rfl) b z), fun j m ej => ?_, fun j m ej => ?_⟩⟩
  · by_cases hj : i = j
    · subst hj
      rw [get_set_eq hi] at ej; cases ej
      refine ⟨.ref a, e1, ?_⟩
      rw [Is.lst_iff]
      exact ⟨a, xs, rfl, .inl ⟨na, .inl e2⟩, IsL.mono (Same.kp (Same.refl H) _) h.ol subO _ _ e3⟩
    · rw [get_set_ne hj] at ej
      obtain ⟨v, q1, q2⟩ := h.val j d ej
      exact ⟨v, q1, Is.mono (Same.kp (Same.refl H) _) h.ol subO _ _ q2⟩
  · have hj := ne j m ej
    rw [get_set_ne hj] at ej
    obtain ⟨b, ys, q1, q2, q3⟩ := h.own j m ej
    exact ⟨b, ys, q1, q2, IsL.mono (Same.kp (Same.refl H) _) h.ol subO _ _ q3⟩
  · have hj := ne j m e4
    have hk := ne k n e5
    rw [get_set_ne hj] at e4
    rw [get_set_ne hk] at e5
    exact h.apart j k b m n e4 e5 q1 q2
  · have hj : i ≠ j := ne j m (by rcases ej with ej | ej <;> rw [ej] <;> rfl)
    rw [get_set_ne hj] at ej
    exact h.loc j m b ej q
  · have hj : i ≠ j := ne j m (by rw [ej]; rfl)
    rw [get_set_ne hj] at ej
    exact h.par j m b ej q
  · have hj : i ≠ j := fun z => by subst z; rw [e] at ej; cases ej
    exact ⟨⟨m, by rw [get_set_ne hj]; exact ej⟩, rfl⟩
  · have hj : i ≠ j := fun z => by subst z; rw [e] at ej; cases ej
    exact ⟨by rw [get_set_ne hj]; exact ej, rfl⟩
theorem ds_rel (i : Nat) {X : Cx} {sts : List Stmt} {g : MS} (h : DSs X sts g) : DSs X sts (sRel i g) := by
  refine PSs.conseq h fun Dn σ H hq => ?_
  obtain ⟨O0, r, fl, hR, e, q⟩ := hq
  unfold sRel at e
  have ⟨l, e1, e2⟩ : ∃ l, r[i]? = some (.o l) ∧ g (r.set i (.v (.lst l))) = some fl := by
    split at e
    · rename_i l h; exact ⟨l, h, e⟩
    · cases e
  obtain ⟨R1, k1⟩ := hR.rel e1
  exact ⟨O0, _, fl, R1, e2, PostS.before R1 k1 q⟩
/-! ### an owned list is held still while a statement runs -/
def frZ (i : Nat) (r : En) : Option En := match r[i]? with
  | some (.o l) => some (r.set i (.z l))
  | _ => none
def unZ (i : Nat) (r : En) : Option En := match r[i]? with
  | some (.z l) => some (r.set i (.o l))
  | _ => none
def unF (i : Nat) : Fl → Option Fl
  | .nx r => (unZ i r).map .nx
  | .bk r => (unZ i r).map .bk
  | .ct r => (unZ i r).map .ct
  | .rt d r => (unZ i r).map (.rt d)
  | .rf _ _ => none
def sZ (i : Nat) (g : MS) : MS := fun r => (frZ i r).bind fun r1 => (g r1).bind (unF i)
/-- one owned slot changes its sort alone -/
theorem R.swap {K : PySem.W.Frag} {O0 : Addr → Prop} {H : Hp} {r : En} {σ : St} {i : Nat} {l : List D} {y : Sl} (h : R K O0 H r σ) (hy : (r[i]? = some (.o l) ∧ y = .z l) ∨ (r[i]? = some (.z l) ∧ y = .o l)) : R K O0 H (r.set i y) σ ∧ ∀ b, OwnAt (r.set i y) σ b ↔ OwnAt r σ b := by
  have eo : (r[i]?).bind Sl.own = some l := by rcases hy with ⟨e, _⟩ | ⟨e, _⟩ <;> rw [e] <;> rfl
  have yo : y.own = some l := by rcases hy with ⟨_, e⟩ | ⟨_, e⟩ <;> rw [e] <;> rfl
  have hi : i < r.length := by
    rcases hy with ⟨e, _⟩ | ⟨e, _⟩ <;> exact (List.getElem?_eq_some_iff.mp e).1
  have own : ∀ j, ((r.set i y)[j]?).bind Sl.own = (r[j]?).bind Sl.own := fun j => by
    by_cases hj : i = j
    · subst hj; rw [get_set_eq hi, eo]; exact yo
    · rw [get_set_ne hj]
  have at_ : ∀ b, OwnAt (r.set i y) σ b ↔ OwnAt r σ b := fun b => ⟨fun ⟨j, m, e, q⟩ => ⟨j, m, by rw [← own j]; exact e, q⟩, fun ⟨j, m, e, q⟩ => ⟨j, m, by rw [own j]; exact e, q⟩⟩
  have ow : ∀ b, Ow O0 (r.set i y) σ b → H b ≠ none → Ow O0 r σ b := fun b z _ => z.imp id (at_ b).mp
  refine ⟨⟨by simp [h.len], fun j d ej => ?_, fun j m ej => ?_, fun j k b m n e4 e5 => ?_, h.o0, fun j m b ej q => ?_, fun j m b ej q => ?_⟩, at_⟩
  · have hj : i ≠ j := fun z => by subst z; rw [get_set_eq hi] at ej; cases ej; cases yo
    rw [get_set_ne hj] at ej
    obtain ⟨v, q1, q2⟩ := h.val j d ej
    exact ⟨v, q1, Is.mono (Same.kp (Same.refl H) _) h.ol ow _ _ q2⟩
  · rw [own j] at ej
    obtain ⟨b, ys, q1, q2, q3⟩ := h.own j m ej
    exact ⟨b, ys, q1, q2, IsL.mono (Same.kp (Same.refl H) _) h.ol ow _ _ q3⟩
  · rw [own j] at e4
    rw [own k] at e5
    exact h.apart j k b m n e4 e5
  · by_cases hj : i = j
    · subst hj
      rcases hy with ⟨e, _⟩ | ⟨e, _⟩
      · exact h.loc i l b (.inl e) q
      · exact h.loc i l b (.inr e) q
    · rw [get_set_ne hj] at ej
      exact h.loc j m b ej q
  · by_cases hj : i = j
    · subst hj
      rw [get_set_eq hi] at ej
      rcases hy with ⟨_, e⟩ | ⟨_, e⟩ <;> rw [e] at ej <;> cases ej
    · rw [get_set_ne hj] at ej
      exact h.par j m b ej q
theorem frZ_some {i : Nat} {r r1 : En} (e : frZ i r = some r1) : ∃ l, r[i]? = some (.o l) ∧ r1 = r.set i (.z l) := by
  unfold frZ at e
  split at e
  · rename_i l h; cases e; exact ⟨l, h, rfl⟩
  · cases e
theorem unZ_some {i : Nat} {r r1 : En} (e : unZ i r = some r1) : ∃ l, r[i]? = some (.z l) ∧ r1 = r.set i (.o l) := by
  unfold unZ at e
  split at e
  · rename_i l h; cases e; exact ⟨l, h, rfl⟩
  · cases e
theorem Kp.froze {K : PySem.W.Frag} {O0 : Addr → Prop} {H H' : Hp} {r r1 r2 r3 : En} {σ σ2 : St} {i : Nat} (hR : R K O0 H r σ) (e : frZ i r = some r1) (k : Kp H r1 σ H' r2 σ2) (R2 : R K O0 H' r2 σ2) (e' : unZ i r2 = some r3) : R K O0 H' r3 σ2 ∧ Kp H r σ H' r3 σ2 := by
  obtain ⟨l, el, rfl⟩ := frZ_some e
  obtain ⟨l2, el2, rfl⟩ := unZ_some e'
  have hi : i < r.length := (List.getElem?_eq_some_iff.mp el).1
  have hi2 : i < r2.length := (List.getElem?_eq_some_iff.mp el2).1
  obtain ⟨R1, at1⟩ := hR.swap (y := .z l) (.inl ⟨el, rfl⟩)
  obtain ⟨R3, at3⟩ := R2.swap (y := .o l2) (.inr ⟨el2, rfl⟩)
  obtain ⟨q1, q2⟩ := k.fz i l (get_set_eq hi)
  have m1 : ∀ b, MutAt (r.set i (.z l)) σ b → MutAt r σ b := fun b ⟨j, m, ej, qj⟩ => by
    have hj : i ≠ j := fun z => by subst z; rw [get_set_eq hi] at ej; cases ej
    rw [get_set_ne hj] at ej; exact ⟨j, m, ej, qj⟩
  refine ⟨R3, ⟨fun b o eb n => k.keep b o eb fun z => n (m1 b z), k.live, k.lst, fun b z => (k.new b ((at3 b).mp z)).imp (at1 b).mp id, fun b z => ?_, fun j m ej => ?_, fun j m ej => ?_⟩⟩
  · obtain ⟨j, m, ej, qj⟩ := z
    by_cases hj : i = j
    · subst hj
      exact .inl ⟨i, l, by rw [el]; rfl, by rw [← q2]; exact qj⟩
    · rw [get_set_ne hj] at ej
      exact (k.mnew b ⟨j, m, ej, qj⟩).imp (m1 b) id
  · have hj : i ≠ j := fun z => by subst z; rw [el] at ej; cases ej
    obtain ⟨⟨m', e1⟩, e2⟩ := k.par j m (by rw [get_set_ne hj]; exact ej)
    exact ⟨⟨m', by rw [get_set_ne hj]; exact e1⟩, e2⟩
  · have hj : i ≠ j := fun z => by subst z; rw [el] at ej; cases ej
    obtain ⟨e1, e2⟩ := k.fz j m (by rw [get_set_ne hj]; exact ej)
    exact ⟨by rw [get_set_ne hj]; exact e1, e2⟩
theorem ds_z (i : Nat) {X : Cx} {st : Stmt} {g : MS} (h : DS X st g) : DS X st (sZ i g) := by
  refine PS.conseq h fun Dn σ H hq => ?_
  obtain ⟨O0, r, fl, hR, e, q⟩ := hq
  obtain ⟨r1, e1, e2⟩ := bind_some e
  obtain ⟨f1, e3, e4⟩ := bind_some e2
  have R1 : R X.K O0 H r1 σ := by
    obtain ⟨l, el, rfl⟩ := frZ_some e1
    exact (hR.swap (y := .z l) (.inl ⟨el, rfl⟩)).1
  refine ⟨O0, r1, f1, R1, e3, ?_⟩
  cases f1 with
  | nx r2 =>
    obtain ⟨r3, e5, rfl⟩ := map_some e4
    exact fun σ' H' R' k' => let ⟨R3, k3⟩ := Kp.froze hR e1 k' R' e5; q σ' H' R3 k3
  | bk r2 =>
    obtain ⟨r3, e5, rfl⟩ := map_some e4
    exact fun σ' H' R' k' => let ⟨R3, k3⟩ := Kp.froze hR e1 k' R' e5; q σ' H' R3 k3
  | ct r2 =>
    obtain ⟨r3, e5, rfl⟩ := map_some e4
    exact fun σ' H' R' k' => let ⟨R3, k3⟩ := Kp.froze hR e1 k' R' e5; q σ' H' R3 k3
  | rt d r2 =>
    obtain ⟨r3, e5, rfl⟩ := map_some e4
    exact fun v σ' H' R' k' iv => let ⟨R3, k3⟩ := Kp.froze hR e1 k' R' e5; q v σ' H' R3 k3 iv
  | rf l r2 => cases e4
/-! ### lists that a loop's body cannot change -/
section
variable {X : Cx} {a b : Expr} {f g : ME} {p pos : Pos} {elts : List Expr} {k : Nat} {tp : Pos}
def lK (K : PySem.W.Frag) (f : ML) : TE := fun σ H Q => ∃ O0 r l, R K O0 H r σ ∧ f r = some l ∧ ∀ u xs H', Same H H' → (∀ H1, Keep (MutAt r σ) H' H1 → SqL K H1 u xs) → IsL K (Ow O0 r σ) H' l xs → Q (.ref u) H'
def DK (X : Cx) (e : Expr) (f : ML) : Prop := PE X e (lK X.K f)
theorem dk_e (h : DE X a f) : DK X a (mAsL f) := by
  refine PE.conseq h fun σ H Q hq => ?_
  obtain ⟨O0, r, l, hR, e, q⟩ := hq
  obtain ⟨d, e1, e⟩ := bind_some e
  refine ⟨O0, r, d, hR, e1, fun v H1 s1 i1 => ?_⟩
  cases d with
  | lst l' =>
    cases e
    rw [Is.lst_iff] at i1
    obtain ⟨u, xs, rfl, rd, il⟩ := i1
    exact q u xs H1 s1 (keepL (fun a z => .inr z.own) rd) il
  | _ => cases e
def mZs (i : Nat) : ML := fun r => match r[i]? with
  | some (.z l) => some l
  | _ => none
theorem dk_z (i : Nat) {x : Str} (h : PE X (.Name x pos) (tVar i)) : DK X (.Name x pos) (mZs i) := by
  refine PE.conseq h fun σ H Q hq => ?_
  obtain ⟨O0, r, l, hR, e, q⟩ := hq
  have e' : r[i]? = some (.z l) := by
    unfold mZs at e
    split at e
    · rename_i l' h; cases e; exact h
    · cases e
  obtain ⟨u, xs, e1, e2, e3⟩ := hR.own i l (by rw [e']; rfl)
  refine ⟨.ref u, e1, q u xs H (Same.refl H) (fun H1 k1 => SqL.of (k1 _ _ e2 fun ⟨j, m, ej, qj⟩ => ?_)) e3⟩
  obtain ⟨y, ey, ym⟩ := bind_some ej
  have := hR.apart i j u l m (by rw [e']; rfl) (by rw [ey]; exact mt_own ym) e1 qj
  subst this
  rw [e'] at ey; cases ey; cases ym
def mZipK (f g : ML) : ML := fun r => (f r).bind fun l => (g r).bind fun m => some (zipD l m)
theorem di_zipK {f g : ML} (hg : Gl X "zip") (hm : X.mg "zip" = none) (ha : DK X a f) (hb : DK X b g) (hs : starEach [a, b] X.env = [(false, eval a X.env), (false, eval b X.env)] := by rfl) (hs2 : starEach [b] X.env = [(false, eval b X.env)] := by rfl) :
    DI X (.Tuple elts k tp) (.Call (.Name "zip" p) [a, b] [] pos) (mZipK f g) := by
  refine PI.conseq (pi_zip hg hm ha hb hs hs2) fun σ H Rr hq => ?_
  obtain ⟨O0, r, ds, hR, e, q⟩ := hq
  obtain ⟨x, e1, e⟩ := bind_some e
  obtain ⟨y, e2, e⟩ := bind_some e
  cases e
  refine ⟨O0, r, x, hR, e1, fun u xs H1 s1 k1 i1 => ⟨O0, r, y, hR.same s1, e2, fun v ys H2 s2 k2 i2 => ?_⟩⟩
  have R2 := hR.same (s1.trans s2)
  have mo : ∀ a, MutAt r σ a → Ow O0 r σ a := fun a z => .inr z.own
  have k1' : ∀ H3, Keep (MutAt r σ) H2 H3 → SqL X.K H3 u xs := fun H3 k3 => k1 H3 fun b o e n => k3 b o (s2 b o e) n
  exact ⟨u, v, rfl, rfl, .inl ⟨⟨xs, k1' H2 fun _ _ e _ => e⟩, ⟨ys, k2 H2 fun _ _ e _ => e⟩, q _ H2 (s1.trans s2) (yl_zip mo R2.ol k1' k2 (i1.same s2 (hR.same s1).ol) i2)⟩⟩
/-! ### a def that tells a number, a truth or a text may be handed owned lists -/
def lW (K : PySem.W.Frag) (f : ML) : TA := fun σ H Q => ∃ O0 r l, R K O0 H r σ ∧ f r = some l ∧ ∀ vs H', Same H H' → IsL K (fun _ => False) H' l vs → Q vs H'
def DV (X : Cx) (es : List Expr) (f : ML) : Prop := PA X es (lW X.K f)
def mConsB (f g : ML) : ML := fun r => (f r).bind fun x => (g r).bind fun l => some (.lst x :: l)
theorem noF {H : Hp} : OLst (fun _ => False) H := fun _ z => z.elim
theorem dv_nil : DV X [] mNil := PA.conseq pa_nil fun σ H Q ⟨O0, r, l, hR, e, q⟩ => by
  unfold mNil at e; cases e
  exact q [] H (Same.refl H) .nil
theorem dv_e {es : List Expr} {fs : ML} (ha : DE X a f) (hr : DV X es fs) (hs : starEach (a :: es) X.env = (false, eval a X.env) :: starEach es X.env := by rfl) : DV X (a :: es) (mCons f fs) := by
  refine PA.conseq (pa_cons ha hr hs) fun σ H Q hq => ?_
  obtain ⟨O0, r, d, hR, e, q⟩ := hq
  obtain ⟨x, e1, e⟩ := bind_some e
  obtain ⟨l, e2, e⟩ := bind_some e
  cases e
  refine ⟨O0, r, x, hR, e1, fun v1 H1 s1 i1 => ⟨O0, r, l, hR.same s1, e2, fun vs H2 s2 i2 => q _ H2 (s1.trans s2) (.cons ?_ i2)⟩⟩
  exact Is.mono (Same.kp s2 _) (hR.same s1).ol (fun _ z _ => z.elim) _ _ i1
theorem dv_b {es : List Expr} {fl fs : ML} (ha : DB X a fl) (hr : DV X es fs) (hs : starEach (a :: es) X.env = (false, eval a X.env) :: starEach es X.env := by rfl) : DV X (a :: es) (mConsB fl fs) := by
  refine PA.conseq (pa_cons ha hr hs) fun σ H Q hq => ?_
  obtain ⟨O0, r, d, hR, e, q⟩ := hq
  obtain ⟨x, e1, e⟩ := bind_some e
  obtain ⟨l, e2, e⟩ := bind_some e
  cases e
  refine ⟨O0, r, x, hR, e1, fun u xs H1 s1 sq i1 => ⟨O0, r, l, hR.same s1, e2, fun vs H2 s2 i2 => q _ H2 (s1.trans s2) (.cons ?_ i2)⟩⟩
  rw [Is.lst_iff]
  refine ⟨u, xs, rfl, ?_, IsL.mono (Same.kp s2 _) (hR.same s1).ol (fun _ z _ => z.elim) _ _ i1⟩
  exact (s2.seq sq).imp (fun z => ⟨id, z⟩) id
def scalD : D → Bool
  | .bl _ => true
  | .int _ => true
  | .str _ => true
  | _ => false
def mCallS (n : Nat) (m : MF) (fs : ML) : ME := fun r => (fs r).bind fun ds => if ds.length = n then (m (ds.map .v)).bind fun p => match p.1 with
  | .v d => if scalD d = true then some d else none
  | _ => none
  else none
theorem scal_is {K : PySem.W.Frag} {O O' : Addr → Prop} {H : Hp} {d : D} {v : V} (h : Is K O H d v) (s : scalD d = true) : Is K O' H d v := by
  cases d <;> first | (cases s; done) | skip
  · rw [Is.bl_iff] at h ⊢; exact h
  · rw [Is.int_iff] at h ⊢; exact h
  · rw [Is.str_iff] at h ⊢; exact h
theorem de_callS {kk n : Nat} {fa : Addr} {fd : FuncData} {ps : List Str} {m : MF} {x : Str} {es : List Expr} {fs : ML} (F : FnOk X.prog X.w X.K X.mg X.base CX0 kk fa fd ps (spD X.K n m)) (hr : Room kk X.A) (hg : Gl X x) (hm : X.mg x = some (.ref fa)) (hk : PySem.W.keepIn X.K (.ref fa) = true) (hb : Binds X.K fd ps []) (ha : DV X (a :: es) fs)
    (hdb : (x == ("__debug__" : Str)) = false := by decide) (he : starEach (a :: es) X.env = (false, eval a X.env) :: starEach es X.env := by rfl) (hpl : (backTo pos (starEach es X.env)).any (·.1) = false := by rfl) :
    DE X (.Call (.Name x p) (a :: es) [] pos) (mCallS n m fs) := by
  refine PE.conseq (pe_call (E := fun _ _ _ => False) (dvs := []) F hr hg hm hk hb .nil pass0 ha hdb he hpl) fun σ H Q hq => ?_
  obtain ⟨O0, r, d, hR, e, q⟩ := hq
  obtain ⟨ds, e1, e2⟩ := bind_some e
  split at e2
  · rename_i hl
    obtain ⟨⟨rs, as'⟩, e3, e4⟩ := bind_some e2
    refine ⟨O0, r, ds, hR, e1, fun vs H1 s1 il => ?_⟩
    show spD X.K n m (vs ++ []) H1 Q _
    rw [List.append_nil]
    refine ⟨fun _ => False, ds.map .v, rs, as', by simpa using hl, R.args noF il, fun i l => ?_, e3, ?_⟩
    · rw [List.getElem?_map]
      cases e1 : ds[i]? with
      | none => exact ⟨(fun z => by cases z), (fun z => by cases z)⟩
      | some y => exact ⟨(fun z => by cases z), (fun z => by cases z)⟩
    · cases rs with
      | v d' =>
        simp only at e4
        split at e4
        · rename_i hs
          cases e4
          exact fun v H2 pf iv => q v H2 (s1.trans pf.same) (scal_is iv hs)
        · cases e4
      | f l => cases e4
  · cases e2
end
end DD
namespace DD
open PySem PySem.Spec PyProof.Rows L2

/-! ### a, b, c = a list -/
section
variable {w : World} {prog : Program} {E : Value → Shared → Prop} {A : Around}
theorem drawL {it l : Addr} {ys : Array Value} (hne : l ≠ it) : ∀ (n i : Nat) (s : Shared) (Q : List Value → Shared → Prop), s.heap.IsListIter it l i → s.heap.IsList l ys → i + n ≤ ys.size →
    (∀ g, g.IsListIter it l (i + n) → Heap.SameBut it s.heap g → Q ((ys.toList.drop i).take n) { s with heap := g }) → wpAny (model prog w) A (draw (.ref it) n) Q E s
  | 0, i, s, Q, h1, _, _, h => by
    show wpAny _ _ (pure []) Q E s; exact wpAny_pure (by simpa using h s.heap h1 (Heap.SameBut.refl ..))
  | n + 1, i, s, Q, h1, h2, h3, h => by
    have hl : i < ys.size := by omega
    show wpAny _ _ (pyNext (.ref it) >>= _) Q E s; refine wpAny_bind (wpAny_pyNext_list_item h1 h2 (x := ys[i]) (by simp [hl]) fun g1 k1 t1 => ?_)
    refine wpAny_bind (wpAny_holding (drawL hne n (i + 1) _ _ k1 (h2.extBut t1.extBut hne) (by omega) fun g2 k2 t2 => wpAny_pure (?_)))
    have hd : ys.toList.drop i = ys[i] :: ys.toList.drop (i + 1) := by simp [List.drop_eq_getElem_cons, hl]
    have := h g2 (by rw [show i + (n + 1) = i + 1 + n by omega]; exact k2) (t1.trans t2)
    rw [hd, List.take_succ_cons] at this; exact this
theorem unpackL {l : Addr} {ys : Array Value} {s : Shared} {Q : List Value → Shared → Prop} (hh : A.handled = none) (h2 : s.heap.IsList l ys) (h : ∀ g, Heap.ExtBut s.heap.objs.size s.heap g → Q ys.toList { s with heap := g }) : wpAny (model prog w) A (unpackItems (.ref l) ys.size none) Q E s := by
  have hlt : l ≠ s.heap.objs.size := by obtain ⟨o, e, _⟩ := h2; exact Nat.ne_of_lt (Heap.lt_size e)
  unfold unpackItems; refine wpAny_bind (?_); unfold notIterableAtAll
  refine wpAny_bind (wpAny_specialOf h2.typeIs F.slot_list_iter.lookup (wpAny_pure (?_))); simp only [Bool.false_eq_true, if_false]; refine wpAny_bind (wpAny_holding (wpAny_pyIter_list h2 (?_)))
  refine wpAny_bind (wpAny_holding (drawL hlt ys.size 0 _ _ ⟨_, Heap.get?_push_size _ rfl, rfl, rfl⟩ (h2.push _) (by omega) fun g1 k1 t1 => ?_))
  have ha : List.take ys.size (List.drop 0 ys.toList) = ys.toList := by rw [List.drop_zero]; exact List.take_of_length_le (by simp)
  rw [ha, if_neg (by simp)]
  refine wpAny_bind (wpAny_holding (wpAny_pyNext_list_end hh k1 ((h2.push _).extBut t1.extBut hlt) (by simp) fun g2 t2 => ?_)); simp only [Option.isSome_none, Bool.false_eq_true, if_false]
  exact wpAny_pure (h g2 fun b o hb e => t2 b o hb (t1.extBut b o hb (Heap.get?_push_of_some _ e)))
end
section
variable {X : Cx} {pos : Pos} {es : List Expr} {k n : Nat}
theorem pg_seq {t : TGs} (hc : X.calm = true) (h : PGs X es t) (hn : (assignEach es X.env).length = n := by rfl) (hst : (assignEach es X.env).findIdx? (·.1) = none := by rfl) :
    PG X (.Tuple es k pos) (fun v σ H Q => ∃ a xs, v = .ref a ∧ (SqT X.K H a xs ∨ SqL X.K H a xs) ∧ xs.length = n ∧ t xs σ H Q) := by
  intro pins s σ H v u Q I r hw
  obtain ⟨a, xs, e1, hq, hl, hw⟩ := hw
  subst e1
  cases r
  rcases hq with hq | hq
  · exact pg_tup hc h hn hst pins s σ H (.ref a) (.ref a) Q I rfl ⟨a, xs, rfl, hq, hl, hw⟩
  · obtain ⟨its, rv, pl, hz⟩ := I.list hq
    rw [assign_Tuple]
    refine wpAny_bind (wpAny_standAt ?_)
    unfold unpack
    rw [hst]
    have hsz : (assignEach es X.env).length = its.toArray.size := by rw [hn, List.size_toArray, ← rv.length]; exact hl.symm
    rw [hsz]
    refine wpAny_bind (wpAny_holding (unpackL (I.ok.hd hc) pl.isList fun g hx => ?_))
    have I1 : Inv X pins σ H { s with heap := g } := I.kept (t' := s.toks) fun b o e => hx b o (Nat.ne_of_lt (Heap.lt_size e)) e
    exact h pins _ σ H xs _ Q I1 (by simpa using rv) hw
def bdSeq (n : Nat) (bs : List D → En → Option En) : D → En → Option En := fun d r => match d with
  | .tup l => if l.length = n then bs l r else none
  | .lst l => if l.length = n then bs l r else none
  | _ => none
theorem dg_seq {bs : List D → En → Option En} (hc : X.calm = true) (h : DGs X es bs) (hn : (assignEach es X.env).length = n := by rfl) (hst : (assignEach es X.env).findIdx? (·.1) = none := by rfl) : DG X (.Tuple es k pos) (bdSeq n bs) := by
  refine PG.conseq (pg_seq hc h hn hst) fun v σ H Q h => ?_
  obtain ⟨O0, r, d, r', hR, iv, e, q⟩ := h
  cases d <;> first | (simp only [bdSeq, reduceCtorEq] at e; done) | skip
  · rename_i l
    rw [Is.tup_iff] at iv
    obtain ⟨a, xs, rfl, hs, il⟩ := iv
    simp only [bdSeq] at e
    split at e
    · rename_i hl
      exact ⟨a, xs, rfl, .inl hs, by rw [← il.length]; exact hl, O0, r, l, r', hR, il, e, q⟩
    · cases e
  · rename_i l
    rw [Is.lst_iff] at iv
    obtain ⟨a, xs, rfl, hs, il⟩ := iv
    simp only [bdSeq] at e
    split at e
    · rename_i hl
      exact ⟨a, xs, rfl, .inr hs.sq, by rw [← il.length]; exact hl, O0, r, l, r', hR, il, e, q⟩
    · cases e
end
/-! ### list.extend -/
set_option maxRecDepth 9000 in
theorem extT (l : Addr) (xs : Array Value) (n : Nat) (b : Addr) (cl : Value) (dd : Option Addr) (ys : Array Value) (n2 : Nat) (sl : Array (Option Value)) (hcl : cl = .type "tuple") (h0 : ¬(!xs.isEmpty && Builtin.List.listTooLong (xs.size + ys.size)) = true) (h1 : xs.size ≤ sizeLine) (h2 : xs.size + ys.size ≤ sizeLine + 1) :
    Meets (Builtin.«list.extend» ⟨[.ref l, .ref b], []⟩) (fun _ R s => s.heap.get? l = some { cls := .type "list", dict := none, data := .seq xs n, slots := #[] } ∧ s.heap.get? b = some { cls := cl, dict := dd, data := .seq ys n2, slots := sl } ∧ R (.ok (.ret Value.none)) { s with heap := s.heap.update l (Obj.mapSeq fun x => x ++ ys), toks := s.toks }) :=
  .of_wp fun prog w A R s h => by
    subst hcl
    obtain ⟨hp, g, d, tk, os⟩ := s; obtain ⟨hl, hb, h⟩ := h; have f1 := AutoSeq1.idx_int; have f2 := AutoSeq1.sub_tuple_tuple; have f3 := AutoSeq1.sub_list_list; have f4 := AutoSeq1.sub_tuple_list; have f5 := AutoSeq1.sub_list_tuple
    have hz : (xs ++ ys).size ≤ sizeLine + 1 := by rw [Array.size_append]; exact h2
    wp_walk using (wpAny_updateSeq hl rfl (hz := h1) (_hz' := hz)), wpAny_loadPart' hl, wpAny_loadPart' hb; exact ⟨_, rfl, h⟩
end DD
namespace DD
open PySem PySem.Spec PyProof.Rows L2

/-! ### list.extend with a list or a tuple -/
set_option maxRecDepth 9000 in
theorem extL (l : Addr) (xs : Array Value) (n : Nat) (b : Addr) (cl : Value) (dd : Option Addr) (ys : Array Value) (n2 : Nat) (sl : Array (Option Value)) (hcl : cl = .type "list") (h0 : ¬(!xs.isEmpty && Builtin.List.listTooLong (xs.size + ys.size)) = true) (h1 : xs.size ≤ sizeLine) (h2 : xs.size + ys.size ≤ sizeLine + 1) :
    Meets (Builtin.«list.extend» ⟨[.ref l, .ref b], []⟩) (fun _ R s => s.heap.get? l = some { cls := .type "list", dict := none, data := .seq xs n, slots := #[] } ∧ s.heap.get? b = some { cls := cl, dict := dd, data := .seq ys n2, slots := sl } ∧ R (.ok (.ret Value.none)) { s with heap := s.heap.update l (Obj.mapSeq fun x => x ++ ys), toks := s.toks }) :=
  .of_wp fun prog w A R s h => by
    subst hcl
    obtain ⟨hp, g, d, tk, os⟩ := s; obtain ⟨hl, hb, h⟩ := h; have f1 := AutoSeq1.idx_int; have f2 := AutoSeq1.sub_tuple_tuple; have f3 := AutoSeq1.sub_list_list; have f4 := AutoSeq1.sub_tuple_list; have f5 := AutoSeq1.sub_list_tuple
    have hz : (xs ++ ys).size ≤ sizeLine + 1 := by rw [Array.size_append]; exact h2
    wp_walk using (wpAny_updateSeq hl rfl (hz := h1) (_hz' := hz)), wpAny_loadPart' hl, wpAny_loadPart' hb; exact ⟨_, rfl, h⟩
section
variable {X : Cx}
def rExtA (K : PySem.W.Frag) : V → List V → Hp → VK → Prop := fun x vs H Q => ∃ l b xs zs, x = .ref l ∧ vs = [.ref b] ∧ H l = some (.lst xs) ∧ (SqL K H b zs ∨ SqT K H b zs) ∧ xs.length + zs.length ≤ sizeLine ∧ Q .non (upd H l (.lst (xs ++ zs)))
theorem mt_extA : MtR X "list.extend" (rExtA X.K) := by
  intro pins s σ H x vs v us Q I rx rv h
  obtain ⟨l, b, xs, zs, rfl, rfl, hH, hB, hz, q⟩ := h
  cases rx
  obtain ⟨u, rfl, ru⟩ := rv.one
  cases ru
  obtain ⟨z, its, n, r, hl, e⟩ := I.lstM hH
  have fin : ∀ (its2 : List Value), Vals zs its2 → ¬ (!its.toArray.isEmpty && Builtin.List.listTooLong (its.toArray.size + its2.toArray.size)) = true ∧ its.toArray.size ≤ sizeLine ∧ its.toArray.size + its2.toArray.size ≤ sizeLine + 1 ∧
      EP X pins σ Q Value.none { s with heap := s.heap.update l (Obj.mapSeq fun x => x ++ its2.toArray), toks := s.toks } := fun its2 r2 => by
    have hl2 := r2.length
    have hsz : its.toArray.size + its2.toArray.size ≤ sizeLine := by rw [List.size_toArray, List.size_toArray]; omega
    refine ⟨by rw [notLongL hsz, Bool.and_false]; exact Bool.false_ne_true, by rw [List.size_toArray]; omega, by omega, .non, _, I.lset (its' := its ++ its2) hH e (by simp) (r.append r2) ?_, rfl, q⟩
    rw [List.length_append]; omega
  rcases hB with hB | hB
  · obtain ⟨its2, r2, ⟨⟨c2, d2, dt2, sl2⟩, n2, g2, hc, hd, hs⟩, z2⟩ := I.list hB
    simp only at hc hd hs
    subst hs
    obtain ⟨f1, f2, f3, f4⟩ := fin its2 r2
    exact call_meets F.slot_list_extend ⟨_, e, rfl⟩ F.entry_list_extend (F.args_list_extend_2 _ _) (extL l its.toArray n b _ _ its2.toArray n2 _ hc f1 f2 f3) ⟨e, g2, f4⟩
  · obtain ⟨its2, r2, ⟨⟨c2, d2, dt2, sl2⟩, g2, hc, n2, hs⟩, z2⟩ := I.tuple hB
    simp only at hc hs
    subst hs
    obtain ⟨f1, f2, f3, f4⟩ := fin its2 r2
    exact call_meets F.slot_list_extend ⟨_, e, rfl⟩ F.entry_list_extend (F.args_list_extend_2 _ _) (extT l its.toArray n b _ _ its2.toArray n2 _ hc f1 f2 f3) ⟨e, g2, f4⟩
variable {apos cpos pn : Pos} {e : Expr} {f : ME}
theorem dx_extend (i : Nat) {x : Str} (h : PE X (.Name x pn) (tVar i)) (he : DE X e f)
    (hline : (apos.endLine == cpos.line) = true := by rfl) (hbase : attributeBase (.Name x pn) "extend" X.env (eval (.Name x pn) X.env) = eval (.Name x pn) X.env := by rfl)
    (hfew : ((backTo cpos (starEach [e] X.env)).all (fun x => !x.1) && (backToKw cpos (keywordEach [] X.env)).all (fun x => x.1.isSome) && decide ([e].length + ([] : List Keyword).length + (if ([] : List Keyword).isEmpty then 0 else 1) < 30)) = true := by rfl)
    (hs : starEach [e] X.env = (false, eval e X.env) :: starEach [] X.env := by rfl) :
    DX X (.Call (.Attribute (.Name x pn) "extend" apos) [e] [] cpos) (mExt i f) := by
  refine PE.conseq (pe_bm PySem.F.plainAttrs_list PySem.F.slot_list_extend PySem.F.type_list_extend mt_extA h (pa_cons he pa_nil hs) hbase hfew hline hs) fun σ H Q hq => ?_
  obtain ⟨O0, r, d', r', hR, e, q⟩ := hq
  obtain ⟨d, e1, e⟩ := bind_some e
  obtain ⟨m, em, e⟩ := bind_some e
  obtain ⟨l, e2, e⟩ := bind_some e
  split at e
  · rename_i hl
    obtain ⟨r2, e3, e4⟩ := map_some e
    cases e4
    obtain ⟨a, xs, q1, q2, q3⟩ := mt_at hR e2
    refine ⟨.ref a, q1, .inl ⟨rfl, xs, SqL.of q2⟩, O0, r, d, hR, e1, fun v H1 s1 i1 => ?_⟩
    have R1 := hR.same s1
    have key : ∃ b zs, v = .ref b ∧ (SqL X.K H1 b zs ∨ SqT X.K H1 b zs) ∧ IsL X.K (Ow O0 r σ) H1 m zs := by
      cases d <;> first | (cases em; done) | skip
      · cases em; rw [Is.tup_iff] at i1; obtain ⟨b, zs, rfl, h1, h2⟩ := i1; exact ⟨b, zs, rfl, .inr h1, h2⟩
      · cases em; rw [Is.lst_iff] at i1; obtain ⟨b, zs, rfl, h1, h2⟩ := i1; exact ⟨b, zs, rfl, .inl h1.sq, h2⟩
    obtain ⟨b, zs, rfl, hb, il⟩ := key
    obtain ⟨R2, k2⟩ := R1.upd (xs' := xs ++ zs) e3 q1 (s1 _ _ q2) ((q3.same s1 hR.ol).append il)
    exact ⟨a, b, xs, zs, rfl, rfl, s1 _ _ q2, hb, by rw [← q3.length, ← il.length]; exact hl, q _ _ R2 ((Kp.of_same r σ s1).trans k2) (by rw [Is.non_iff])⟩
  · cases e
end

/-! ### lists of flat values, == and != -/
def eqLV : List V → List V → Bool
  | [], [] => true
  | x :: xs, y :: ys => eqV x y && eqLV xs ys
  | _, _ => false
def eqLF : List D → List D → Bool
  | [], [] => true
  | x :: xs, y :: ys => eqF x y && eqLF xs ys
  | _, _ => false
def eqAtJ (xs ys : List V) (j : Nat) : Bool := match xs[j]?, ys[j]? with
  | some x, some y => eqV x y
  | _, _ => false
theorem range_eqJ : ∀ (xs ys : List V), xs.length = ys.length → (List.range xs.length).all (eqAtJ xs ys) = eqLV xs ys
  | [], [], _ => rfl
  | x :: xs, y :: ys, h => by
    rw [List.length_cons, List.range_succ_eq_map, List.all_cons, List.all_map, eqLV, ← range_eqJ xs ys (by simpa using h)]
    rfl
  | [], y :: ys, h => by simp at h
  | x :: xs, [], h => by simp at h
theorem eqLV_len : ∀ (xs ys : List V), xs.length ≠ ys.length → eqLV xs ys = false
  | [], [], h => by simp at h
  | x :: xs, y :: ys, h => by rw [eqLV, eqLV_len xs ys (by simpa using h), Bool.and_false]
  | [], y :: ys, h => rfl
  | x :: xs, [], h => rfl
theorem eqLF_ok {K : PySem.W.Frag} {O : Addr → Prop} {H : Hp} : ∀ {l m : List D} {xs ys : List V}, IsL K O H l xs → IsL K O H m ys → l.all flatD = true → m.all flatD = true → xs.all flatV = true ∧ ys.all flatV = true ∧ eqLV xs ys = eqLF l m
  | [], [], xs, ys, h, h', _, _ => by unfold IsL at h h'; subst h h'; exact ⟨rfl, rfl, rfl⟩
  | [], e :: m, xs, ys, h, h', _, f' => by
    unfold IsL at h; subst h
    rw [List.all_cons, Bool.and_eq_true] at f'
    unfold IsL at h'; obtain ⟨v, r, rfl, h1, h2⟩ := h'
    exact ⟨rfl, by rw [List.all_cons, flat_ok h1 f'.1, (eqLF_ok (l := []) IsL.nil h2 rfl f'.2).2.1]; rfl, rfl⟩
  | d :: l, [], xs, ys, h, h', f, _ => by
    unfold IsL at h'; subst h'
    rw [List.all_cons, Bool.and_eq_true] at f
    unfold IsL at h; obtain ⟨v, r, rfl, h1, h2⟩ := h
    exact ⟨by rw [List.all_cons, flat_ok h1 f.1, (eqLF_ok (m := []) h2 IsL.nil f.2 rfl).1]; rfl, rfl, rfl⟩
  | d :: l, e :: m, xs, ys, h, h', f, f' => by
    rw [List.all_cons, Bool.and_eq_true] at f f'
    unfold IsL at h; obtain ⟨v, r, rfl, h1, h2⟩ := h
    unfold IsL at h'; obtain ⟨v', r', rfl, h1', h2'⟩ := h'
    obtain ⟨a, b, c⟩ := eqLF_ok h2 h2' f.2 f'.2
    exact ⟨by rw [List.all_cons, flat_ok h1 f.1, a]; rfl, by rw [List.all_cons, flat_ok h1' f'.1, b]; rfl, by rw [eqLV, eqLF, c, eqF_ok h1 f.1 h1' f'.1]⟩
section
variable {X : Cx}
def rEqL (K : PySem.W.Frag) (neg : Bool) : R2 := fun x y H Q => ∃ p q xs ys, x = .ref p ∧ y = .ref q ∧ SqL K H p xs ∧ SqL K H q ys ∧ xs.all flatV = true ∧ ys.all flatV = true ∧ Q (.bl (if neg then !eqLV xs ys else eqLV xs ys)) H
theorem all_get {xs : List V} {j : Nat} {x : V} (h : xs.all flatV = true) (e : xs[j]? = some x) : flatV x = true := List.all_eq_true.mp h x (List.mem_of_getElem? e)
theorem vals_at {xs : List V} {its : List Value} (r : Vals xs its) {j : Nat} (h : j < its.toArray.size) : ∃ x, xs[j]? = some x ∧ RelV x its.toArray[j] := by
  have hj : j < xs.length := by rw [r.length]; simpa using h
  obtain ⟨u, e, q⟩ := r.get (i := j) (x := xs[j]) (by simp [hj])
  refine ⟨xs[j], by simp [hj], ?_⟩
  have : its.toArray[j] = u := by
    have h' : j < its.length := by simpa using h
    simp only [List.getElem_toArray]
    rw [List.getElem?_eq_getElem h'] at e
    exact Option.some.inj e
  rw [this]; exact q
theorem items_eq {A : Around} {s : Shared} {xs ys : List V} {its its2 : List Value} (r : Vals xs its) (r2 : Vals ys its2) (fx : xs.all flatV = true) (fy : ys.all flatV = true) : ∀ j (h1 : j < its.toArray.size) (h2 : j < its2.toArray.size), SeqAt.EqAt A s its.toArray[j] its2.toArray[j] (eqAtJ xs ys j) := by
  intro j h1 h2
  obtain ⟨x, e1, q1⟩ := vals_at r h1
  obtain ⟨y, e2, q2⟩ := vals_at r2 h2
  have : eqAtJ xs ys j = eqV x y := by unfold eqAtJ; rw [e1, e2]
  rw [this]
  exact eqAt_V q1 q2 (all_get fx e1) (all_get fy e2)
theorem op_eqL (hu : X.A.units < cLine) : OpR X (compareOp .Eq) (rEqL X.K false) := by
  intro pins s σ H x y v u Q I rx ry h
  obtain ⟨p, q', xs, ys, rfl, rfl, h1, h2, fx, fy, q⟩ := h
  cases rx; cases ry
  obtain ⟨its, r, pl, hz⟩ := I.list h1
  obtain ⟨its2, r2, pl2, hz2⟩ := I.list h2
  have n1 := r.length
  have n2 := r2.length
  by_cases hl : xs.length = ys.length
  · refine SeqAt.eq_listAt pl.isList pl2.isList (by simp only [List.size_toArray]; omega) hu (items_eq r r2 fx fy) (fin_bl I q ?_)
    rw [List.size_toArray, ← n1, range_eqJ xs ys hl]; rfl
  · refine SeqAt.eq_list_lengthsAt pl.isList pl2.isList (by simp only [List.size_toArray, bne_iff_ne]; omega) hu (fin_bl I q ?_)
    rw [eqLV_len xs ys hl]; rfl
theorem op_neL (hu : X.A.units < cLine) : OpR X (compareOp .NotEq) (rEqL X.K true) := by
  intro pins s σ H x y v u Q I rx ry h
  obtain ⟨p, q', xs, ys, rfl, rfl, h1, h2, fx, fy, q⟩ := h
  cases rx; cases ry
  obtain ⟨its, r, pl, hz⟩ := I.list h1
  obtain ⟨its2, r2, pl2, hz2⟩ := I.list h2
  have n1 := r.length
  have n2 := r2.length
  by_cases hl : xs.length = ys.length
  · refine SeqAt.RcNeAt.lists pl.isList pl2.isList (by simp only [List.size_toArray]; omega) hu (items_eq r r2 fx fy) _ _ _ _ (fin_bl I q ?_)
    rw [List.size_toArray, ← n1, range_eqJ xs ys hl]; rfl
  · refine SeqAt.RcNeAt.lists_lengths pl.isList pl2.isList (by simp only [List.size_toArray, bne_iff_ne]; omega) hu _ _ _ _ (fin_bl I q ?_)
    rw [eqLV_len xs ys hl]; rfl
def eqA (x y : D) : Option D := match x, y with
  | .lst l, .lst m => if l.all flatD = true ∧ m.all flatD = true then some (.bl (eqLF l m)) else none
  | x, y => eqD x y
def neA (x y : D) : Option D := match x, y with
  | .lst l, .lst m => if l.all flatD = true ∧ m.all flatD = true then some (.bl (!eqLF l m)) else none
  | x, y => neD x y
def rEqA (K : PySem.W.Frag) : R2 := fun x y H Q => rEqL K false x y H Q ∨ rEq x y H Q
def rNeA (K : PySem.W.Frag) : R2 := fun x y H Q => rEqL K true x y H Q ∨ rNe x y H Q
theorem op_eqA (hu : X.A.units < cLine) : OpR X (compareOp .Eq) (rEqA X.K) := (op_eqL hu).or op_eq
theorem op_neA (hu : X.A.units < cLine) : OpR X (compareOp .NotEq) (rNeA X.K) := (op_neL hu).or op_ne
theorem od_eqA {K : PySem.W.Frag} : OpD K (rEqA K) eqA := by
  intro O H dx dy d vx vy Q ol ix iy e q
  unfold eqA at e
  split at e
  · rename_i l m
    split at e
    · rename_i hf
      cases e
      rw [Is.lst_iff] at ix iy
      obtain ⟨a, xs, rfl, hs, il⟩ := ix
      obtain ⟨b, ys, rfl, hs', il'⟩ := iy
      obtain ⟨f1, f2, f3⟩ := eqLF_ok il il' hf.1 hf.2
      exact .inl ⟨a, b, xs, ys, rfl, rfl, hs.sq, hs'.sq, f1, f2, q _ H (Same.refl H) (by rw [Is.bl_iff, f3]; rfl)⟩
    · cases e
  · exact .inr (od_eq O H dx dy d vx vy Q ol ix iy e q)
theorem od_neA {K : PySem.W.Frag} : OpD K (rNeA K) neA := by
  intro O H dx dy d vx vy Q ol ix iy e q
  unfold neA at e
  split at e
  · rename_i l m
    split at e
    · rename_i hf
      cases e
      rw [Is.lst_iff] at ix iy
      obtain ⟨a, xs, rfl, hs, il⟩ := ix
      obtain ⟨b, ys, rfl, hs', il'⟩ := iy
      obtain ⟨f1, f2, f3⟩ := eqLF_ok il il' hf.1 hf.2
      exact .inl ⟨a, b, xs, ys, rfl, rfl, hs.sq, hs'.sq, f1, f2, q _ H (Same.refl H) (by rw [Is.bl_iff, f3]; rfl)⟩
    · cases e
  · exact .inr (od_ne O H dx dy d vx vy Q ol ix iy e q)
end
end DD
namespace DD
open PySem PySem.Spec PyProof.Rows L2

section
variable {X : Cx} {a b l tg : Expr} {f : ME} {pos p : Pos}
/-- a loop over a list that is kept -/
theorem di_k {fl : ML} (hl : DK X l fl) : DI X tg l fl := by
  refine PI.conseq (pi_seq hl) fun σ H Rr h => ?_
  obtain ⟨O0, r, ds, hR, e, q⟩ := h
  refine ⟨O0, r, ds, hR, e, fun u xs H1 s1 kp il => ?_⟩
  exact ⟨u, rfl, .inl ⟨⟨xs, kp H1 fun b o e _ => e⟩, q _ H1 s1 (yl_list (fun a z => .inr z.own) (hR.same s1).ol kp il)⟩⟩
/-- a test whose left side changes owned lists -/
def mBinX (m : D → D → Option D) (fx : En → Option (D × En)) (f : ME) : En → Option (Bool × En) := fun r => (fx r).bind fun p => (f p.2).bind fun y => (m p.1 y).bind fun d => (blD d).map fun b => (b, p.2)
def sIfX (c : En → Option (Bool × En)) (g h : MS) : MS := fun r => (c r).bind fun p => if p.1 = true then g p.2 else h p.2
theorem ds_ifX {op : CmpOp} {r2 : R2} {m : D → D → Option D} {fx : En → Option (D × En)} {sa sb : List Stmt} {g h : MS} {pc : Pos} (ho : OpR X (compareOp op) r2) (hd : OpD X.K r2 m) (hx : DX X a fx) (hb : DE X b f) (hm : behindInMarks op b = false) (hg : DSs X sa g) (hh : DSs X sb h) :
    DS X (.If (.Compare a [op] [b] pc) sa sb pos) (sIfX (mBinX m fx f) g h) := by
  refine PS.conseq (ps_if (pt_cmpR ho hx hb hm) hg hh) fun Dn σ H hq => ?_
  obtain ⟨O0, r, fl', hR, e, q⟩ := hq
  obtain ⟨⟨k, r0⟩, e1, e2⟩ := bind_some e
  obtain ⟨⟨d, r1⟩, e3, e1⟩ := bind_some e1
  obtain ⟨y, e4, e1⟩ := bind_some e1
  obtain ⟨d2, e5, e1⟩ := bind_some e1
  obtain ⟨k', e6, e7⟩ := map_some e1
  cases e7
  refine ⟨O0, r, d, r1, hR, e3, fun v H1 R1 k1 i1 => ⟨O0, r1, y, R1, e4, fun u H2 s2 i2 => ?_⟩⟩
  have R2 := R1.same s2
  refine hd (Ow O0 r1 σ) H2 d y d2 v u _ R2.ol (i1.same s2 R1.ol) i2 e5 fun z H3 s3 i3 => ?_
  have hz : z = .bl k := by
    cases d2 <;> first | (cases e6; done) | skip
    cases e6; rw [Is.bl_iff] at i3; exact i3
  have R3 := R2.same s3
  have q1 := PostS.before R3 (k1.trans (Kp.of_same r1 σ (s2.trans s3))) q
  refine ⟨k, hz, ?_⟩
  cases k with
  | true => rw [if_pos rfl] at e2; exact iteT ⟨O0, r1, fl', R3, e2, q1⟩
  | false => rw [if_neg Bool.false_ne_true] at e2; exact iteF ⟨O0, r1, fl', R3, e2, q1⟩
end

/-! ### a call that changes one owned list -/
section
variable {X : Cx} {a : Expr} {es : List Expr} {f : ME} {fs : ML} {i : Nat} {pos p pn : Pos}
abbrev MZ := En → Option (List D × List D)
def zP (fs : ML) : MZ := fun r => (fs r).map fun es => ([], es)
def zE (f : ME) (z : MZ) : MZ := fun r => (f r).bind fun d => (z r).map fun q => (d :: q.1, q.2)
def lZ (K : PySem.W.Frag) (i : Nat) (f : MZ) : TA := fun σ H Q => ∃ O0 r l ds es, R K O0 H r σ ∧ mtOf r i = some l ∧ f r = some (ds, es) ∧ ∀ vs a us H', Same H H' → σ[i]? = some (some (.ref a)) → IsL K (Ow O0 r σ) H' ds vs → IsL K (Ow O0 r σ) H' es us → Q (vs ++ .ref a :: us) H'
def DZ (X : Cx) (i : Nat) (es : List Expr) (f : MZ) : Prop := PA X es (lZ X.K i f)
theorem dz_p {x : Str} (h : PE X (.Name x pn) (tVar i)) (hr : DA X es fs) (hs : starEach (.Name x pn :: es) X.env = (false, eval (.Name x pn) X.env) :: starEach es X.env := by rfl) : DZ X i (.Name x pn :: es) (zP fs) := by
  refine PA.conseq (pa_cons h hr hs) fun σ H Q hq => ?_
  obtain ⟨O0, r, l, ds, us, hR, em, e, q⟩ := hq
  obtain ⟨us', e1, e2⟩ := map_some e
  cases e2
  obtain ⟨c, xs, q1, q2, q3⟩ := mt_at hR em
  exact ⟨.ref c, q1, O0, r, _, hR, e1, fun vs H1 s1 i1 => q [] c vs H1 s1 q1 .nil i1⟩
theorem dz_e {z : MZ} (ha : DE X a f) (hr : DZ X i es z) (hs : starEach (a :: es) X.env = (false, eval a X.env) :: starEach es X.env := by rfl) : DZ X i (a :: es) (zE f z) := by
  refine PA.conseq (pa_cons ha hr hs) fun σ H Q hq => ?_
  obtain ⟨O0, r, l, ds, us, hR, em, e, q⟩ := hq
  obtain ⟨d, e1, e⟩ := bind_some e
  obtain ⟨⟨ds', us'⟩, e2, e3⟩ := map_some e
  cases e3
  exact ⟨O0, r, d, hR, e1, fun v H1 s1 i1 => ⟨O0, r, l, ds', us', hR.same s1, em, e2, fun vs c ws H2 s2 hc i2 i3 => q (v :: vs) c ws H2 (s1.trans s2) hc (.cons (i1.same s2 (hR.same s1).ol) i2) i3⟩⟩
/-- the parameters of such a call -/
def zArgs (ds : List D) (l : List D) (es : List D) : List Sl := ds.map .v ++ .p l :: es.map .v
theorem zArgs_get {ds l es : List D} {j : Nat} {x : Sl} (e : (zArgs ds l es)[j]? = some x) : (∃ d, x = .v d ∧ (ds ++ .non :: es)[j]? = some d ∧ j ≠ ds.length) ∨ (x = .p l ∧ j = ds.length) := by
  unfold zArgs at e
  by_cases h : j < ds.length
  · rw [List.getElem?_append_left (by simpa using h), List.getElem?_map] at e
    rw [List.getElem?_append_left h]
    cases e1 : ds[j]? with
    | none => rw [e1] at e; cases e
    | some d => rw [e1] at e; cases e; exact .inl ⟨d, rfl, rfl, by omega⟩
  · rw [List.getElem?_append_right (by simpa using h)] at e
    rw [List.getElem?_append_right (by omega)]
    simp only [List.length_map] at e
    cases e2 : j - ds.length with
    | zero => rw [e2] at e; cases e; exact .inr ⟨rfl, by omega⟩
    | succ k =>
      rw [e2, List.getElem?_cons_succ, List.getElem?_map] at e
      rw [List.getElem?_cons_succ]
      cases e1 : es[k]? with
      | none => rw [e1] at e; cases e
      | some d => rw [e1] at e; cases e; exact .inl ⟨d, rfl, rfl, by omega⟩
theorem zArgs_own {ds l es m : List D} {j : Nat} {q : Sl → Option (List D)} (hq : ∀ d, q (.v d) = none) (e : ((zArgs ds l es)[j]?).bind q = some m) : j = ds.length ∧ q (.p l) = some m := by
  obtain ⟨x, e1, e2⟩ := bind_some e
  rcases zArgs_get e1 with ⟨d, rfl, _⟩ | ⟨rfl, h⟩
  · rw [hq] at e2; cases e2
  · exact ⟨h, e2⟩
theorem zVs_get {vs us : List V} {c : Addr} : (vs ++ V.ref c :: us)[vs.length]? = some (.ref c) := by rw [List.getElem?_append_right (Nat.le_refl _), Nat.sub_self]; rfl
theorem zIs_get {K : PySem.W.Frag} {O : Addr → Prop} {H : Hp} {ds es : List D} {vs us : List V} {c : Addr} {j : Nat} {d : D} (h1 : IsL K O H ds vs) (h2 : IsL K O H es us) (e : (ds ++ .non :: es)[j]? = some d) (hj : j ≠ ds.length) : ∃ v, (vs ++ V.ref c :: us)[j]? = some v ∧ Is K O H d v := by
  have hl := h1.length
  by_cases h : j < ds.length
  · rw [List.getElem?_append_left h] at e
    obtain ⟨v, e1, i1⟩ := h1.get e
    exact ⟨v, by rw [List.getElem?_append_left (by omega)]; exact e1, i1⟩
  · rw [List.getElem?_append_right (by omega)] at e
    rw [List.getElem?_append_right (by omega)]
    obtain ⟨k, hk⟩ : ∃ k, j - ds.length = k + 1 := ⟨j - ds.length - 1, by omega⟩
    rw [hk, List.getElem?_cons_succ] at e
    rw [← hl, hk, List.getElem?_cons_succ]
    exact h2.get e
theorem R.zargs {K : PySem.W.Frag} {O : Addr → Prop} {H : Hp} {ds l es : List D} {vs us xs : List V} {c : Addr} (ol : OLst O H) (hc : O c) (ec : H c = some (.lst xs)) (il : IsL K O H l xs) (h1 : IsL K O H ds vs) (h2 : IsL K O H es us) : R K O H (zArgs ds l es) ((vs ++ V.ref c :: us).map some) := by
  have hl := h1.length
  have hl2 := h2.length
  have ow : ∀ b, Ow O (zArgs ds l es) ((vs ++ V.ref c :: us).map some) b → H b ≠ none → O b := fun b z _ => z.elim id fun ⟨j, m, ej, qj⟩ => by
    obtain ⟨rfl, _⟩ := zArgs_own (fun _ => rfl) ej
    rw [List.getElem?_map, hl, zVs_get] at qj
    cases qj; exact hc
  refine ⟨by simp [zArgs, hl, hl2], fun j d e => ?_, fun j m e => ?_, fun j k b m m' e1 e2 q1 q2 => ?_, ol, fun j m b e q => ?_, fun j m b e q => ?_⟩
  · rcases zArgs_get e with ⟨d', e', e2, e3⟩ | ⟨e', _⟩
    · cases e'
      obtain ⟨v, e4, i4⟩ := zIs_get (c := c) h1 h2 e2 e3
      exact ⟨v, by rw [List.getElem?_map, e4]; rfl, Is.mono (Same.kp (Same.refl H) _) ol ow _ _ i4⟩
    · cases e'
  · obtain ⟨rfl, e2⟩ := zArgs_own (fun _ => rfl) e
    cases e2
    exact ⟨c, xs, by rw [List.getElem?_map, hl, zVs_get]; rfl, ec, IsL.mono (Same.kp (Same.refl H) _) ol ow _ _ il⟩
  · rw [(zArgs_own (fun _ => rfl) e1).1, (zArgs_own (fun _ => rfl) e2).1]
  · exfalso
    rcases e with e | e <;> rcases zArgs_get e with ⟨d', e', _⟩ | ⟨e', _⟩ <;> cases e'
  · obtain ⟨rfl, _⟩ := zArgs_own (q := Sl.own) (fun _ => rfl) (m := m) (by rw [e]; rfl)
    rw [List.getElem?_map, hl, zVs_get] at q
    cases q; exact hc
def mCallX (n : Nat) (m : MF) (i : Nat) (z : MZ) : En → Option (D × En) := fun r => (mtOf r i).bind fun l => (z r).bind fun q => if q.1.length + 1 + q.2.length = n then (m (zArgs q.1 l q.2)).bind fun p => match p.1 with
  | .v d => match p.2[q.1.length]? with
    | some (.p l') => (putO i l' r).map fun r' => (d, r')
    | _ => none
  | _ => none
  else none
theorem own_put {r r' : En} {σ : St} {l' : List D} {b : Addr} (e : putO i l' r = some r') (h : OwnAt r' σ b) : OwnAt r σ b := by
  obtain ⟨x, y, ex, rfl, yo, ym, ⟨l0, xm⟩, _⟩ := putO_some e
  obtain ⟨j, m, ej, qj⟩ := h
  by_cases hj : j = i
  · subst hj; exact ⟨j, l0, by rw [ex]; exact mt_own xm, qj⟩
  · rw [get_set_ne (fun z => hj z.symm)] at ej; exact ⟨j, m, ej, qj⟩
theorem dx_call {k n : Nat} {fa : Addr} {fd : FuncData} {ps : List Str} {m : MF} {x : Str} {z : MZ} (F : FnOk X.prog X.w X.K X.mg X.base CX0 k fa fd ps (spD X.K n m)) (hr : Room k X.A) (hg : Gl X x) (hm : X.mg x = some (.ref fa)) (hk : PySem.W.keepIn X.K (.ref fa) = true) (hb : Binds X.K fd ps []) (ha : DZ X i (a :: es) z)
    (hdb : (x == ("__debug__" : Str)) = false := by decide) (he : starEach (a :: es) X.env = (false, eval a X.env) :: starEach es X.env := by rfl) (hpl : (backTo pos (starEach es X.env)).any (·.1) = false := by rfl) :
    DX X (.Call (.Name x p) (a :: es) [] pos) (mCallX n m i z) := by
  refine PE.conseq (pe_call (E := fun _ _ _ => False) (dvs := []) F hr hg hm hk hb .nil pass0 ha hdb he hpl) fun σ H Q hq => ?_
  obtain ⟨O0, r, d, r', hR, e, q⟩ := hq
  obtain ⟨l, e1, e⟩ := bind_some e
  obtain ⟨⟨ds, us⟩, e2, e⟩ := bind_some e
  split at e
  · rename_i hn
    obtain ⟨⟨rs, as'⟩, e3, e⟩ := bind_some e
    refine ⟨O0, r, l, ds, us, hR, e1, e2, fun vs c ws H1 s1 hc i1 i2 => ?_⟩
    show spD X.K n m ((vs ++ .ref c :: ws) ++ []) H1 Q _
    rw [List.append_nil]
    have R1 := hR.same s1
    obtain ⟨c', xs, p1, p2, p3⟩ := mt_at R1 e1
    rw [hc] at p1; cases p1
    have hoc : Ow O0 r σ c := by
      obtain ⟨y, z1, z2⟩ := bind_some e1
      exact .inr ⟨i, l, by rw [z1]; exact mt_own z2, hc⟩
    refine ⟨Ow O0 r σ, zArgs ds l us, rs, as', by simp [zArgs]; simp only at hn; omega, R.zargs R1.ol hoc p2 p3 i1 i2, fun j m' => ⟨fun e => ?_, fun e => ?_⟩, e3, ?_⟩
    · rcases zArgs_get e with ⟨d', e', _⟩ | ⟨e', _⟩ <;> cases e'
    · rcases zArgs_get e with ⟨d', e', _⟩ | ⟨e', _⟩ <;> cases e'
    · cases rs with
      | f l => cases e
      | v d' =>
        simp only at e
        split at e
        · rename_i l' ek
          obtain ⟨r2, e5, e6⟩ := map_some e
          have hd1 : d' = d := congrArg Prod.fst e6
          have hr1 : r2 = r' := congrArg Prod.snd e6
          subst hd1 hr1
          refine fun v H2 pf iv => ?_
          have hkk : (zArgs ds l us)[ds.length]? = some (.p l) := by unfold zArgs; rw [List.getElem?_append_right (by simp)]; simp
          obtain ⟨l2, c2, xs2, f1, f2, f3, f4⟩ := pf.par ds.length l hkk
          rw [ek] at f1; cases f1
          rw [i1.length, zVs_get] at f2; cases f2
          have mutc : ∀ b, MutAt (zArgs ds l us) ((vs ++ V.ref c :: ws).map some) b → b = c := fun b ⟨j, m', ej, qj⟩ => by
            obtain ⟨rfl, _⟩ := zArgs_own (fun _ => rfl) ej
            rw [List.getElem?_map, i1.length, zVs_get] at qj
            cases qj; rfl
          obtain ⟨R2, k2⟩ := R1.put e5 hc (fun b o hb eb => pf.keep b o eb fun z => hb (mutc b z)) (fun b hb eb => pf.live b eb) f3 f4
          exact q v H2 R2 ((Kp.of_same r σ s1).trans k2) (Is.mono (Same.kp (Same.refl H2) _) (fun b zb => zb.elim (R2.o0 b) fun zb => by
            obtain ⟨ys, ey⟩ := R1.ol b (.inr zb); exact pf.lst b ys ey) (fun b zb _ => zb.imp id (own_put e5)) _ _ iv)
        · cases e
  · cases e
end
end DD
namespace DD
open PySem PySem.Spec PyProof.Rows L2
section
variable {es : List Expr} {env : Env} {p : Pos}
theorem stConst {c k} : starEach (.Constant c k p :: es) env = (false, eval (.Constant c k p) env) :: starEach es env := rfl
theorem stName {x} : starEach (.Name x p :: es) env = (false, eval (.Name x p) env) :: starEach es env := rfl
theorem stTuple {l k} : starEach (.Tuple l k p :: es) env = (false, eval (.Tuple l k p) env) :: starEach es env := rfl
theorem stCall {f l k} : starEach (.Call f l k p :: es) env = (false, eval (.Call f l k p) env) :: starEach es env := rfl
theorem stList {l} : starEach (.List l p :: es) env = (false, eval (.List l p) env) :: starEach es env := rfl
theorem stSub {a b} : starEach (.Subscript a b p :: es) env = (false, eval (.Subscript a b p) env) :: starEach es env := rfl
theorem stBin {a o b} : starEach (.BinOp a o b p :: es) env = (false, eval (.BinOp a o b p) env) :: starEach es env := rfl
end
/-! ### a display of texts -/
def litS : List Expr → Option (List (List Nat))
  | [] => some []
  | .Constant (.str x) _ _ :: es => (litS es).map (x.cps.toList :: ·)
  | _ => none
def mLit (ss : List (List Nat)) : ML := fun _ => some (ss.map D.str)
theorem da_strs {X : Cx} : ∀ {es : List Expr} {ss : List (List Nat)}, litS es = some ss → DA X es (mLit ss)
  | [], ss, h => by
    cases h; exact da_nil
  | e :: es, ss, h => by
    cases e <;> first | (simp only [litS, reduceCtorEq] at h; done) | skip
    rename_i c j p
    cases c <;> first | (simp only [litS, reduceCtorEq] at h; done) | skip
    rename_i x
    simp only [litS] at h
    obtain ⟨ss', e1, rfl⟩ := map_some h
    exact da_cons (f := mC (.str x.cps.toList)) (fs := mLit ss') (de_str rfl) (da_strs e1) (hs := stConst)
end DD
namespace DD
open PySem PySem.Spec PyProof.Rows L2
section
variable {X : Cx} {pos : Pos} {a b tg : Expr} {f g : ME}
/-- a statement that is not come to -/
def sNever : MS := fun _ => none
theorem ds_never {st : Stmt} : DS X st sNever := fun _ _ _ _ _ _ q => by
  obtain ⟨O0, r, fl, hR, e, q⟩ := q
  cases e
/-! ### the signs of a text, one after another -/
def Its (x : Str) : It := ⟨fun i _ => i < x.cps.size, fun i H v H' => H' = H ∧ ∃ c, x.cps[i]? = some c ∧ v = .str ⟨#[c]⟩, fun i _ => x.cps.size ≤ i⟩
theorem turn_str {P : Program} {w : World} {K : PySem.W.Frag} (x : Str) (t : Tok) (it : Addr) : Turn P w K tg (Its x) [it] it (fun i h => h.IsStrIter it (strIterType x) x t i) where
  mem := by simp
  obj := fun i h st b hb => by
    obtain rfl : b = it := by simpa using hb
    obtain ⟨o, e, c, d⟩ := st
    exact ⟨o, e, fun v z => by rw [d] at z; cases z⟩
  keep := fun i h h' st k => by
    obtain ⟨o, e, c, d⟩ := st
    exact ⟨o, k it (by simp) o e, c, d⟩
  item := by
    intro X hP hw hK hc i pins s σ H E I hf st hg
    subst hP hw hK
    obtain ⟨f0, f1, f2, f3, f4, f5⟩ := hf it (by simp)
    have hg : i < x.cps.size := hg
    have hx : x.cps[i]? = some (x.cps[i]'hg) := Array.getElem?_eq_getElem hg
    have fin : ∀ h', h'.IsStrIter it (strIterType x) x t (i + 1) → Heap.SameBut it s.heap h' → ∃ u, some (Value.str ⟨#[x.cps[i]'hg]⟩ s.toks) = some u ∧
        wpAny (model X.prog X.w) X.A (letOwnedTupleGo tg (.ref it) u) (fun _ s2 => ∃ x' H', Inv X pins σ H' s2 ∧ RelV x' u ∧ (Its x).yld i H x' H' ∧ s2.heap.IsStrIter it (strIterType x) x t (i + 1) ∧ ∀ b ∈ [it], H' b = none) E { s with heap := h', toks := s.toks + 1 } := fun h' st' sb => by
      have I1 : Inv X pins σ H { s with heap := h', toks := s.toks + 1 } := I.turned (t' := s.toks + 1) (fun b o hb e => (sb.2 b hb).trans e) f0 f1 f3 f4 f5
      obtain ⟨o, e, c, d⟩ := id st'
      refine ⟨_, rfl, go_of (s := { s with heap := h', toks := s.toks + 1 }) e c d ?_ ⟨.str ⟨#[x.cps[i]'hg]⟩, H, I1, ⟨_, rfl⟩, ⟨rfl, _, hx, rfl⟩, st', fun b hb => (hf b hb).1⟩⟩
      unfold strIterType
      split <;> decide
    rcases ha : x.cps.all (· < 128) with _ | _
    · have ht : strIterType x = "str_iterator" := by unfold strIterType; rw [ha]; rfl
      rw [ht] at st
      exact wpAny_pyNext_wide_item st hx fun h' st' sb => fin h' (by rw [ht]; exact st') sb
    · have ht : strIterType x = "str_ascii_iterator" := by unfold strIterType; rw [ha]; rfl
      rw [ht] at st
      exact wpAny_pyNext_ascii_item st hx fun h' st' sb => fin h' (by rw [ht]; exact st') sb
  done := by
    intro X hP hw hK hc i pins s σ H E I hf st hg
    subst hP hw hK
    obtain ⟨f0, f1, f2, f3, f4, f5⟩ := hf it (by simp)
    have hx : x.cps[i]? = none := by
      have : x.cps.size ≤ i := hg
      simp [this]
    rcases ha : x.cps.all (· < 128) with _ | _
    · have ht : strIterType x = "str_iterator" := by unfold strIterType; rw [ha]; rfl
      rw [ht] at st
      exact wpAny_pyNext_wide_end (I.ok.hd hc) st hx fun h' eb => ⟨rfl, I.turned (t' := s.toks) (fun b o hb e => eb b o hb e) f0 f1 f3 f4 f5⟩
    · have ht : strIterType x = "str_ascii_iterator" := by unfold strIterType; rw [ha]; rfl
      rw [ht] at st
      exact wpAny_pyNext_ascii_end (I.ok.hd hc) st hx fun h' eb => ⟨rfl, I.turned (t' := s.toks) (fun b o hb e => eb b o hb e) f0 f1 f3 f4 f5⟩
  self := fun A i s Q E st h => by
    rcases ha : x.cps.all (· < 128) with _ | _
    · have ht : strIterType x = "str_iterator" := by unfold strIterType; rw [ha]; rfl
      rw [ht] at st
      exact wpAny_pyIter_striter_wide st h
    · have ht : strIterType x = "str_ascii_iterator" := by unfold strIterType; rw [ha]; rfl
      rw [ht] at st
      exact wpAny_pyIter_striter_ascii st h
def signsD : D → Option (List D)
  | .str s => some (s.map fun c => .str [c])
  | _ => none
def mItS (f : ME) : ML := fun r => (f r).bind signsD
theorem yl_str {K : PySem.W.Frag} {O M : Addr → Prop} {H : Hp} (s : List Nat) : Ylds K O M H (Its ⟨s.toArray⟩) (s.map fun c => .str [c]) := by
  intro i H1 O' kp oo
  refine ⟨fun hi => ⟨by rw [List.length_map] at hi; show i < s.toArray.size; simpa using hi, fun x H' y => ?_⟩, fun hi => by rw [List.length_map] at hi; show s.toArray.size ≤ i; simp; omega⟩
  obtain ⟨rfl, c, ec, rfl⟩ := y
  refine ⟨Same.refl _, fun d e => ?_⟩
  rw [List.getElem?_map] at e
  have ec' : s[i]? = some c := by simpa using ec
  rw [ec'] at e
  cases e
  rw [Is.str_iff]
theorem di_str (hl : DE X a f) : DI X tg a (mItS f) := by
  intro pins s σ H Rr I h
  obtain ⟨O0, r, ds, hR, e, q⟩ := h
  obtain ⟨d, e1, e2⟩ := bind_some e
  cases d <;> first | (cases e2; done) | skip
  rename_i y
  cases e2
  refine thn (hl pins s σ H (fun v H1 => Same H H1 ∧ v = .str ⟨y.toArray⟩) I ⟨O0, r, _, hR, e1, fun v H1 s1 i1 => ⟨s1, by rw [Is.str_iff] at i1; exact i1⟩⟩) fun v s1 ⟨x, H1, I1, r1, s1', ex⟩ => ?_
  subst ex
  obtain ⟨t, rfl⟩ := r1
  refine wpAny_pyIter_strU ?_
  refine ⟨s1.heap.objs.size, [s1.heap.objs.size], _, _, H1, rfl, I1.kept (t' := s1.toks) fun b o e => Heap.get?_push_of_some _ e, turn_str _ t _, ⟨_, Heap.get?_push_size _ rfl, rfl, rfl⟩, fun b hb => ?_, q _ H1 s1' (yl_str y)⟩
  obtain rfl : b = s1.heap.objs.size := by simpa using hb
  exact I1.fpOk (Nat.le_refl _) (I1.hok.fresh (Nat.le_refl _))
/-! ### all of a list of truths -/
def blsD : List D → Option (List Bool)
  | [] => some []
  | .bl i :: r => (blsD r).map (i :: ·)
  | _ => none
def mAll (fl : ML) : ME := fun r => (fl r).bind fun l => (blsD l).map fun bs => .bl (bs.all id)
theorem blsD_ok {K : PySem.W.Frag} {O : Addr → Prop} {H : Hp} : ∀ {l : List D} {ns : List Bool} {vs : List V}, blsD l = some ns → IsL K O H l vs → vs = ns.map V.bl
  | [], ns, vs, e, il => by cases e; unfold IsL at il; subst il; rfl
  | d :: l, ns, vs, e, il => by
    unfold IsL at il
    obtain ⟨v, r, rfl, i1, i2⟩ := il
    cases d <;> first | (simp only [blsD, reduceCtorEq] at e; done) | skip
    simp only [blsD] at e
    obtain ⟨ms, e1, rfl⟩ := map_some e
    rw [Is.bl_iff] at i1
    rw [i1, blsD_ok e1 i2]; rfl
theorem call_allB (hc : X.calm = true) : CallR X (.builtin "all") (fun xs H Q => ∃ (p : Addr) (bs : List Bool), xs = [.ref p] ∧ SqL X.K H p (bs.map V.bl) ∧ Q (.bl (bs.all id)) H) := by
  intro pins s σ H xs us Q I r hq
  obtain ⟨p, bs, rfl, hS, q⟩ := hq
  obtain ⟨u, rfl, ru⟩ := Vals.one r
  cases ru
  obtain ⟨its, rv, pl, hz⟩ := I.list hS
  have hl := pl.isList
  have hlt : p < s.heap.objs.size := by obtain ⟨_, e, _⟩ := hl; exact Heap.lt_size e
  have ln : its.length = bs.length := by have := rv.length; rw [List.length_map] at this; exact this.symm
  refine call_all_walk (wpAny_pyIter_list hl ?_); refine ⟨s.heap.objs.size, [s.heap.objs.size, p], [s.heap.objs.size], its.toArray.size, _, _, fun i => (bs[i]?).getD true, rfl, Walks.list (A := X.A.in1) (I.ok.hd hc) _ p (Nat.ne_of_lt hlt) its.toArray, ⟨⟨_, Heap.get?_push_size _ rfl, rfl, rfl⟩, hl.push _⟩, fun i v s' Q' E' hP hQ => ?_, fun h' tk hk => ?_⟩
  · have hv : its[i]? = some v := by simpa using hP
    have hi : i < bs.length := by have := (List.getElem?_eq_some_iff.mp hv).1; omega
    have e : bs[i]? = some (bs[i]'hi) := List.getElem?_eq_getElem hi
    obtain ⟨w', e1, e2⟩ := rv.get (i := i) (x := .bl (bs[i]'hi)) (by rw [List.getElem?_map, e]; rfl)
    rw [hv] at e1
    cases e1
    obtain rfl : v = .bool (bs[i]'hi) := e2
    simp only [Option.getD_some, e] at hQ
    exact wpAny_truthy_bool hQ
  · have e : ((List.range its.toArray.size).all fun i => (bs[i]?).getD true) = bs.all id := by
      rw [List.size_toArray, ln]; exact LSm.range_all bs
    rw [e]
    exact ⟨.bl _, H, I.kept (LSm.kept_iter hk), rfl, q⟩
theorem de_all {p' : Pos} {fl : ML} (hg : Gl X "all") (hm : X.mg "all" = none) (ha : DB X a fl) (hc : X.calm = true := by rfl)
    (hs : starEach [a] X.env = (false, eval a X.env) :: starEach [] X.env := by rfl) : DE X (.Call (.Name "all" p') [a] [] pos) (mAll fl) := by
  refine PE.conseq (pe_callB (call_allB hc) hg hm PyProof.Rows.boot_all (pa_cons ha pa_nil hs) (he := hs)) fun σ H Q hq => ?_
  obtain ⟨O0, r, d, hR, e, q⟩ := hq
  obtain ⟨l, e1, e2⟩ := bind_some e
  obtain ⟨bs, e3, rfl⟩ := map_some e2
  refine ⟨O0, r, l, hR, e1, fun p xs H1 s1 sq il => ?_⟩
  have ex := blsD_ok e3 il
  subst ex
  exact ⟨p, bs, rfl, sq, q _ H1 s1 (by rw [Is.bl_iff])⟩
/-! ### int of figures -/
def intOfD : D → Option D
  | .str s => if s ≠ [] ∧ s.length ≤ 600 ∧ (s.all fun c => decide (48 ≤ c) && decide (c ≤ 57)) = true then some (.int (PySem.NumText.digitsVal s : Nat)) else none
  | _ => none
theorem call_intS : CallR X (.type "int") (fun xs H Q => ∃ s : List Nat, xs = [.str ⟨s.toArray⟩] ∧ s ≠ [] ∧ s.length ≤ 600 ∧ (s.all fun c => decide (48 ≤ c) && decide (c ≤ 57)) = true ∧ Q (.int (PySem.NumText.digitsVal s : Nat)) H) := by
  intro pins s σ H xs us Q I r hq
  obtain ⟨y, rfl, y0, y1, y2, q⟩ := hq
  obtain ⟨u, rfl, t, rfl⟩ := Vals.one r
  have hd : PySem.NumText.AllDigits y := fun c hc => by
    have := List.all_eq_true.mp y2 c hc
    simpa using this
  refine PySem.W.KIN.call_text (n := (PySem.NumText.digitsVal y : Nat)) ?_ ?_ ⟨.int _, H, I.tok _, ⟨_, rfl⟩, q⟩
  · have := PySem.intText_digits (x := ⟨y.toArray⟩) (by simpa using hd) (by simpa using y0) (by rw [str_len]; omega)
    simpa using this
  · rw [str_len]; omega
theorem de_intOf {p' : Pos} (hg : Gl X "int") (hm : X.mg "int" = none) (ha : DE X a f) (hs : starEach [a] X.env = (false, eval a X.env) :: starEach [] X.env := by rfl) : DE X (.Call (.Name "int" p') [a] [] pos) (mUn intOfD f) := by
  refine PE.conseq (pe_callTy call_intS hg hm PyProof.Rows.boot_int (pa_cons ha pa_nil hs) (he := hs)) fun σ H Q hq => ?_
  obtain ⟨O0, r, d, hR, e, q⟩ := hq
  obtain ⟨x, e1, e2⟩ := bind_some e
  refine ⟨O0, r, x, hR, e1, fun v H1 s1 i1 => ?_⟩
  cases x <;> first | (simp only [intOfD, reduceCtorEq] at e2; done) | skip
  simp only [intOfD] at e2
  split at e2
  · rename_i hl
    cases e2
    rw [Is.str_iff] at i1
    exact ⟨_, by rw [i1], hl.1, hl.2.1, hl.2.2, q _ H1 s1 (by rw [Is.int_iff])⟩
  · cases e2
/-! ### constants of the module -/
theorem de_gint {x : Str} {i : Int} (h : ∃ t, X.mg x = some (.int i t)) (hg : Gl X x) (hd : (x == ("__debug__" : Str)) = false := by decide) : DE X (.Name x pos) (mC (.int i)) := by
  obtain ⟨t, h⟩ := h
  exact de_con (pe_glob (v := .int i) hg h ⟨t, rfl⟩ hd) fun O H => by rw [Is.int_iff]
/-- a tuple of texts that the module holds -/
def GTup (mg : Str → Option Value) (K : PySem.W.Frag) (x : Str) (ss : List (List Nat)) : Prop := ∃ (p : Addr) (o : Obj) (its : Array Value) (n : Nat), mg x = some (.ref p) ∧ K.lookup p = some o ∧ o.cls = .type "tuple" ∧ o.data = .seq its n ∧ its.size ≤ sizeLine ∧ Vals (ss.map fun s => V.str ⟨s.toArray⟩) its.toList
theorem isl_strs {K : PySem.W.Frag} {O : Addr → Prop} {H : Hp} : ∀ ss : List (List Nat), IsL K O H (ss.map D.str) (ss.map fun s => V.str ⟨s.toArray⟩)
  | [] => IsL.nil
  | s :: ss => .cons (by rw [Is.str_iff]) (isl_strs ss)
theorem de_gtup {x : Str} {ss : List (List Nat)} (h : GTup X.mg X.K x ss) (hg : Gl X x) (hd : (x == ("__debug__" : Str)) = false := by decide) : DE X (.Name x pos) (mC (.tup (ss.map D.str))) := by
  obtain ⟨p, o, its, n, h1, h2, h3, h4, h5, h6⟩ := h
  refine de_con (pe_glob (v := .ref p) hg h1 rfl hd) fun O H => ?_
  rw [Is.tup_iff]
  exact ⟨p, _, rfl, .inr ⟨o, its, n, h2, h3, h4, h5, h6⟩, isl_strs ss⟩
/-- a dict of texts by texts that the module holds -/
def Ent (e : DictEntry) (q : List Nat × List Nat) : Prop := ∃ t u, e.key = .str ⟨q.1.toArray⟩ t ∧ e.val = .str ⟨q.2.toArray⟩ u
def Ents : List DictEntry → List (List Nat × List Nat) → Prop
  | [], l => l = []
  | e :: es, l => ∃ q r, l = q :: r ∧ Ent e q ∧ Ents es r
def GDict (mg : Str → Option Value) (K : PySem.W.Frag) (Ps : Params) (x : Str) (tbl : List (List Nat × List Nat)) : Prop := ∃ (p : Addr) (es : Array DictEntry) (n : Nat), mg x = some (.ref p) ∧ (p == sysModules) = false ∧ K.lookup p = some ⟨.type "dict", none, .dict es n, #[]⟩ ∧ PySem.W.KeysLit Ps es.toList ∧ Ents es.toList tbl
def look (tbl : List (List Nat × List Nat)) (s : List Nat) : Option (List Nat) := (tbl.find? fun q => decide (q.1 = s)).map (·.2)
theorem ents_find : ∀ {es : List DictEntry} {tbl : List (List Nat × List Nat)} (s : List Nat), Ents es tbl → match look tbl s with
    | some v => ∃ u, (es.find? fun d => Value.isStrOf ⟨s.toArray⟩ d.key).map (·.val) = some (.str ⟨v.toArray⟩ u)
    | none => (es.find? fun d => Value.isStrOf ⟨s.toArray⟩ d.key).map (·.val) = none
  | [], tbl, s, h => by unfold Ents at h; subst h; rfl
  | e :: es, tbl, s, h => by
    unfold Ents at h
    obtain ⟨q, r, rfl, ⟨t, u, h1, h2⟩, h3⟩ := h
    have ih := ents_find s h3
    have k : Value.isStrOf (⟨s.toArray⟩ : Str) e.key = decide (q.1 = s) := by
      rw [h1]
      show ((⟨q.1.toArray⟩ : Str) == ⟨s.toArray⟩) = _
      by_cases c : q.1 = s
      · rw [decide_eq_true c, c]; simp
      · rw [decide_eq_false c]
        refine beq_eq_false_iff_ne.mpr fun z => c ?_
        have z2 := congrArg (fun x : Str => x.cps.toList) z
        simpa using z2
    unfold look at ih ⊢
    rw [List.find?_cons, List.find?_cons, k]
    cases hc : decide (q.1 = s)
    · exact ih
    · exact ⟨u, by rw [Option.map_some, h2]⟩
theorem gd_map {Ps : Params} {x : Str} {tbl : List (List Nat × List Nat)} {pins : List (Addr × Obj)} {σ : St} {H : Hp} {s : Shared} {p : Addr} {es : Array DictEntry} {n : Nat} (I : Inv X pins σ H s) (hl : X.K.lookup p = some ⟨.type "dict", none, .dict es n, #[]⟩) (hk : PySem.W.KeysLit X.w.params es.toList) : s.heap.MapOf (strKind X.prog X.w) p (fun k => findBy Value.isStrOf es k) := PySem.W.mapOf_K (I.mod.kin.keeps I.bk) hl hk
def rHas (p : Addr) (tbl : List (List Nat × List Nat)) (neg : Bool) : R2 := fun x y H Q => ∃ s : List Nat, x = .str ⟨s.toArray⟩ ∧ y = .ref p ∧ Q (.bl (if neg then !(look tbl s).isSome else (look tbl s).isSome)) H
theorem find_toArr (es : Array DictEntry) (k : Str) : findBy Value.isStrOf es k = (es.toList.find? fun d => Value.isStrOf k d.key).map (·.val) := by
  obtain ⟨l⟩ := es
  unfold findBy
  rw [List.find?_toArray]
theorem has_look {es : Array DictEntry} {tbl : List (List Nat × List Nat)} (s : List Nat) (h : Ents es.toList tbl) : (findBy Value.isStrOf es ⟨s.toArray⟩).isSome = (look tbl s).isSome := by
  have q := ents_find s h
  rw [find_toArr]
  cases e : look tbl s with
  | none => rw [e] at q; rw [q]; rfl
  | some v => rw [e] at q; obtain ⟨u, q⟩ := q; rw [q]; rfl
theorem op_notHas {p : Addr} {tbl : List (List Nat × List Nat)} {es : Array DictEntry} {n : Nat} (hp : (p == sysModules) = false) (hl : X.K.lookup p = some ⟨.type "dict", none, .dict es n, #[]⟩) (hk : PySem.W.KeysLit X.w.params es.toList) (he : Ents es.toList tbl) : OpR X (compareOp .NotIn) (rHas p tbl true) := by
  intro pins s σ H x y v u Q I rx ry h
  obtain ⟨z, rfl, rfl, q⟩ := h
  obtain ⟨t, rfl⟩ := rx
  cases ry
  refine wpAny_notIn_of (strKind_is _ _ _ t) hp (gd_map (tbl := tbl) (Ps := X.w.params) (x := "") I hl hk) ⟨.bl _, H, I.tok _, rfl, ?_⟩
  simp only [has_look z he]
  exact q
theorem op_has {p : Addr} {tbl : List (List Nat × List Nat)} {es : Array DictEntry} {n : Nat} (hp : (p == sysModules) = false) (hl : X.K.lookup p = some ⟨.type "dict", none, .dict es n, #[]⟩) (hk : PySem.W.KeysLit X.w.params es.toList) (he : Ents es.toList tbl) : OpR X (compareOp .In) (rHas p tbl false) := by
  intro pins s σ H x y v u Q I rx ry h
  obtain ⟨z, rfl, rfl, q⟩ := h
  obtain ⟨t, rfl⟩ := rx
  cases ry
  refine wpAny_in_of (strKind_is _ _ _ t) hp (gd_map (tbl := tbl) (Ps := X.w.params) (x := "") I hl hk) ⟨.bl _, H, I.tok _, rfl, ?_⟩
  simp only [has_look z he]
  exact q
def hasT (tbl : List (List Nat × List Nat)) (neg : Bool) : D → Option D
  | .str s => some (.bl (if neg then !(look tbl s).isSome else (look tbl s).isSome))
  | _ => none
def hasB (p : Addr) (tbl : List (List Nat × List Nat)) (neg : Bool) (x y : D) : Option D := match y with
  | .ref b => if b = p then hasT tbl neg x else none
  | _ => none
theorem od_has (p : Addr) (tbl : List (List Nat × List Nat)) (neg : Bool) : OpD X.K (rHas p tbl neg) (hasB p tbl neg) := by
  intro O H dx dy d vx vy Q ol ix iy e q
  cases dy <;> first | (simp only [hasB, reduceCtorEq] at e; done) | skip
  simp only [hasB] at e
  split at e
  · rename_i hb
    subst hb
    cases dx <;> first | (simp only [hasT, reduceCtorEq] at e; done) | skip
    simp only [hasT, Option.some.injEq] at e
    subst e
    rw [Is.str_iff] at ix
    rw [Is.ref_iff] at iy
    exact ⟨_, ix, iy, q _ H (Same.refl H) (by rw [Is.bl_iff])⟩
  · cases e
theorem de_gref {x : Str} {p : Addr} (h : X.mg x = some (.ref p)) (hg : Gl X x) (hd : (x == ("__debug__" : Str)) = false := by decide) : DE X (.Name x pos) (mC (.ref p)) :=
  de_con (pe_glob (v := .ref p) hg h rfl hd) fun O H => by rw [Is.ref_iff]
theorem mB_has {p : Addr} {tbl : List (List Nat × List Nat)} {neg : Bool} : mBin (hasB p tbl neg) f (mC (.ref p)) = mUn (hasT tbl neg) f := by
  funext r
  unfold mBin mUn mC
  cases f r with
  | none => rfl
  | some x => exact if_pos rfl
theorem dt_notHas {x : Str} {tbl : List (List Nat × List Nat)} {p' : Pos} (h : GDict X.mg X.K X.w.params x tbl) (hg : Gl X x) (ha : DE X a f) (hm : behindInMarks .NotIn (.Name x p') = false := by rfl) (hd : (x == ("__debug__" : Str)) = false := by decide) : DT X (.Compare a [.NotIn] [.Name x p'] pos) (mBl (mUn (hasT tbl true) f)) := by
  obtain ⟨p, es, n, h1, h2, h3, h4, h5⟩ := h
  rw [← mB_has (p := p)]
  exact dt_cmp (op_notHas h2 h3 h4 h5) (od_has p tbl true) ha (de_gref h1 hg hd) hm
theorem dt_has {x : Str} {tbl : List (List Nat × List Nat)} {p' : Pos} (h : GDict X.mg X.K X.w.params x tbl) (hg : Gl X x) (ha : DE X a f) (hm : behindInMarks .In (.Name x p') = false := by rfl) (hd : (x == ("__debug__" : Str)) = false := by decide) : DT X (.Compare a [.In] [.Name x p'] pos) (mBl (mUn (hasT tbl false) f)) := by
  obtain ⟨p, es, n, h1, h2, h3, h4, h5⟩ := h
  rw [← mB_has (p := p)]
  exact dt_cmp (op_has h2 h3 h4 h5) (od_has p tbl false) ha (de_gref h1 hg hd) hm
/-- its value at a text -/
def rAt (p : Addr) (tbl : List (List Nat × List Nat)) : R2 := fun x y H Q => ∃ s v : List Nat, x = .ref p ∧ y = .str ⟨s.toArray⟩ ∧ look tbl s = some v ∧ Q (.str ⟨v.toArray⟩) H
theorem ix_gd {p : Addr} {tbl : List (List Nat × List Nat)} {es : Array DictEntry} {n : Nat} (hl : X.K.lookup p = some ⟨.type "dict", none, .dict es n, #[]⟩) (hk : PySem.W.KeysLit X.w.params es.toList) (he : Ents es.toList tbl) : IxR X (rAt p tbl) := by
  intro value slice pins s σ H x y v u Q I rx ry h hs
  obtain ⟨z, c, rfl, rfl, e, q⟩ := h
  cases rx
  obtain ⟨t, rfl⟩ := ry
  have hmap := gd_map (tbl := tbl) (Ps := X.w.params) (x := "") I hl hk
  have fnd := ents_find z he
  rw [e] at fnd
  obtain ⟨u', fnd⟩ := fnd
  rw [← find_toArr] at fnd
  exact subscriptTail_builtinR (x := .str ⟨c.toArray⟩ u') hmap.typeIs slot_dict_getitem.lookup (wpAny_getItem_of (Q := fun r s' => r = Value.str ⟨c.toArray⟩ u' ∧ EP X pins σ Q r s') (strKind_is _ _ _ t) hmap fnd ⟨rfl, .str ⟨c.toArray⟩, H, I.tok _, ⟨u', rfl⟩, q⟩) hs
def atT (tbl : List (List Nat × List Nat)) : D → Option D
  | .str s => (look tbl s).map .str
  | _ => none
theorem de_gat {x : Str} {tbl : List (List Nat × List Nat)} {p' : Pos} (h : GDict X.mg X.K X.w.params x tbl) (hg : Gl X x) (hb : DE X b f) (hs : PlainIx b := by intro _ _; rfl) (hd : (x == ("__debug__" : Str)) = false := by decide) : DE X (.Subscript (.Name x p') b pos) (mUn (atT tbl) f) := by
  obtain ⟨p, es, n, h1, h2, h3, h4, h5⟩ := h
  refine PE.conseq (pe_ix (ix_gd h3 h4 h5) (de_gref (p := p) h1 hg hd) hb hs) fun σ H Q hq => ?_
  obtain ⟨O0, r, d, hR, e, q⟩ := hq
  obtain ⟨k, e1, e2⟩ := bind_some e
  cases k <;> first | (simp only [atT, reduceCtorEq] at e2; done) | skip
  simp only [atT] at e2
  obtain ⟨v, e3, rfl⟩ := map_some e2
  refine ⟨O0, r, _, hR, rfl, fun v1 H1 s1 i1 => ⟨O0, r, _, hR.same s1, e1, fun v2 H2 s2 i2 => ?_⟩⟩
  rw [Is.ref_iff] at i1
  rw [Is.str_iff] at i2
  exact ⟨_, v, i1, i2, e3, q _ H2 (s1.trans s2) (by rw [Is.str_iff])⟩
end
end DD
namespace K02
open PySem PySem.Spec PyProof.Rows L2 DD
def top (i : Nat) : Stmt := PySem.Challenge.pw_fieldrows_k02_expressions_read.main.body.getD i (.Pass ⟨0, 0, 0, 0⟩)
def RF : Nat := 40
def WF : Nat := 100000
def C_KEPT_WORDS : List (List Nat) := [[100, 101, 102], [102, 110], [100, 111], [101, 109, 112, 116, 121], [103, 101, 116], [119, 105, 116, 104], [112, 117, 116], [108, 101, 115, 115], [116, 97, 103], [119, 105, 100, 101], [99, 97, 115, 101], [110, 101, 118, 101, 114], [105, 102]]
def C_FORMS : List (List Nat × List Nat) := [([102, 110], [110, 69]), ([100, 111], [69, 69]), ([101, 109, 112, 116, 121], []), ([103, 101, 116], [110, 69]), ([119, 105, 116, 104], [110, 69, 69]), ([112, 117, 116], [110, 69, 69]), ([108, 101, 115, 115], [110, 69]), ([116, 97, 103], [110, 69]), ([119, 105, 100, 101], [110, 69]), ([99, 97, 115, 101], [69, 110, 110, 69, 110, 69]), ([110, 101, 118, 101, 114], [69]), ([105, 102], [69, 69, 69]), ([43], [69, 69]), ([45], [69, 69]), ([42], [69, 69]), ([60], [69, 69])]
def g_all_between : MS := (sRet (mAll (mComp [1, 2] 3 (mItS (mVar 0)) (setV 2) (mChain leA leA (mVar 0) (mVar 2) (mVar 1)))))
def F_all_between : MF := mkF 3 3 g_all_between
def g_is_name : MS := (sRet (mAnd (mChain leA leA (mC (.int 1)) (mUn lenD (mVar 0)) (mC (.int 8))) (mAnd (mCall 3 F_all_between (mCons (mVar 0) (mCons (mC (.str [97])) (mCons (mC (.str [122])) mNil)))) (mBin (inD true) (mVar 0) (mC (.tup (C_KEPT_WORDS.map D.str)))))))
def F_is_name : MF := mkF 1 1 g_is_name
def g_is_number : MS := (sSeq (sIf (mOrT (mNotT (mBl (mChain leA leA (mC (.int 1)) (mUn lenD (mVar 0)) (mC (.int 6))))) (mNotT (mTru (mCall 3 F_all_between (mCons (mVar 0) (mCons (mC (.str [48])) (mCons (mC (.str [57])) mNil)))))))
 (sRet (mC (.bl false)))
 sSkip)
 (sRet (mOr (mBin eqA (mVar 0) (mC (.str [48]))) (mBin neA (mBin ixD (mVar 0) (mC (.int 0))) (mC (.str [48]))))))
def F_is_number : MF := mkF 1 1 g_is_number
def g_read_number : MS := (sSeq (sIf (mNotT (mTru (mCall 1 F_is_number (mCons (mVar 0) mNil))))
 sNever
 sSkip)
 (sRet (mUn intOfD (mVar 0))))
def F_read_number : MF := mkF 1 1 g_read_number
def g_take_word : MS := (sSeq (sIf (mNotT (mTruB (mOwn 0)))
 sNever
 sSkip)
 (sRetX (mPop 0)))
def F_take_word : MF := mkF 1 1 g_take_word
def g_take_name : MS := (sSeq (sSetX 1 (mCallX 1 F_take_word 0 (zP mNil)))
 (sSeq (sIf (mNotT (mTru (mCall 1 F_is_name (mCons (mVar 1) mNil))))
 sNever
 sSkip)
 (sRet (mVar 1))))
def F_take_name : MF := mkF 1 2 g_take_name
def g_read_leaf : MS := (sSeq (sIf (mTru (mCall 1 F_is_name (mCons (mVar 0) mNil)))
 (sRet (mTup (mCons (mC (.str [110, 97, 109, 101])) (mCons (mVar 0) mNil))))
 sSkip)
 (sRet (mTup (mCons (mC (.str [110, 117, 109])) (mCons (mCall 1 F_read_number (mCons (mVar 0) mNil)) mNil)))))
def F_read_leaf : MF := mkF 1 1 g_read_leaf
def g_take_expression (m : MF) : MS := (sSeq (sIf (mBl (mBin gtD (mVar 1) (mC (.int 30))))
 sNever
 sSkip)
 (sSeq (sSetX 2 (mCallX 1 F_take_word 0 (zP mNil)))
 (sSeq (sIf (mBl (mUn (hasT C_FORMS true) (mVar 2)))
 (sRet (mCall 1 F_read_leaf (mCons (mVar 2) mNil)))
 sSkip)
 (sSeq (sOwn 3 (mLstF (mCons (mVar 2) mNil)))
 (sSeq (sFor (setV 4) (mItS (mUn (atT C_FORMS) (mVar 2)))
 (sIf (mBl (mBin eqA (mVar 4) (mC (.str [110]))))
 (sX (mAppX 3 (mCallX 1 F_take_name 0 (zP mNil))))
 (sX (mAppX 3 (mCallX 2 m 0 (zP (mCons (mBin addD (mVar 1) (mC (.int 1))) mNil)))))))
 (sRet (mTupOf (mOwn 3))))))))
def F_take_expression : Nat → MF
  | 0 => fun _ => none
  | k + 1 => mkF 2 5 (g_take_expression (F_take_expression k))
def g_read_expression : MS := (sSeq (sOwn 1 (mRevF (mSplit (mVar 0) (mC (.str [32])))))
 (sSeq (sSetX 2 (mCallX 2 (F_take_expression RF) 1 (zP (mCons (mC (.int 0)) mNil))))
 (sSeq (sIf (mTruB (mOwn 1))
 sNever
 sSkip)
 (sRet (mVar 2)))))
def F_read_expression : MF := mkF 1 3 g_read_expression
def g_written_parts : MS := (sSeq (sIf (mBl (mBin (inD false) (mBin ixD (mVar 0) (mC (.int 0))) (mTup (mCons (mC (.str [110, 117, 109])) (mCons (mC (.str [110, 97, 109, 101])) mNil)))))
 (sRet (mSl (mVar 0) (oSome (mC (.int 1))) oNone))
 sSkip)
 (sRet (mVar 0)))
def F_written_parts : MF := mkF 1 1 g_written_parts
def g_shown_expression : MS := (sSeq (sOwn 1 (mLstF mNil))
 (sSeq (sOwn 2 (mLstF (mCons (mVar 0) mNil)))
 (sSeq (sWhile WF (mTruB (mOwn 2))
 (sSeq (sSetX 3 (mPop 2))
 (sIf (mTru (mUn (instD "tuple") (mVar 3)))
 (sX (mExt 2 (mUn revD (mCall 1 F_written_parts (mCons (mVar 3) mNil)))))
 (sX (mApp 1 (mUn strD (mVar 3)))))))
 (sRet (mJoin (mC (.str [32])) (mOwn 1))))))
def F_shown_expression : MF := mkF 1 4 g_shown_expression
def g__law_cell : MS := (sSeq (sIf (mBl (mBin ltD (mVar 1) (mUn lenD (mVar 0))))
 (sRet (mBin ixD (mVar 0) (mVar 1)))
 sSkip)
 (sRet (mC (.int 0))))
def F__law_cell : MF := mkF 2 2 g__law_cell
def g__law_mixed : MS := (sSeq (sSet 2 (mBin modD (mBin addD (mBin addD (mBin modD (mVar 0) (mC (.int 2147483647))) (mBin mulD (mC (.int 16807)) (mVar 1))) (mC (.int 7))) (mC (.int 2147483629))))
 (sSeq (sSet 2 (mBin modD (mBin mulD (mVar 2) (mVar 2)) (mC (.int 2147483587))))
 (sRet (mBin fdivD (mBin modD (mBin mulD (mVar 2) (mBin addD (mVar 2) (mC (.int 48271)))) (mC (.int 2147483579))) (mC (.int 5))))))
def F__law_mixed : MF := mkF 2 3 g__law_mixed
def g__law_kept : MS := (sRet (mOfF (mLstF (mLit [[100, 101, 102], [102, 110], [100, 111], [101, 109, 112, 116, 121], [103, 101, 116], [119, 105, 116, 104], [112, 117, 116], [108, 101, 115, 115], [116, 97, 103], [119, 105, 100, 101], [99, 97, 115, 101], [110, 101, 118, 101, 114], [105, 102]]))))
def F__law_kept : MF := mkF 0 0 g__law_kept
def g__law_name : MS := (sSeq (sSet 1 (mC (.str [])))
 (sSeq (sFor (setV 2) (mRng1 (mBin addD (mC (.int 1)) (mBin modD (mVar 0) (mC (.int 8)))))
 (sSet 1 (mBin addD (mVar 1) (mBin ixD (mC (.str [97, 98, 99, 100, 101, 102, 103, 104, 105, 106, 107, 108, 109, 110, 111, 112, 113, 114, 115, 116, 117, 118, 119, 120, 121, 122])) (mBin modD (mCall 2 F__law_mixed (mCons (mVar 0) (mCons (mBin addD (mC (.int 30)) (mVar 2)) mNil))) (mC (.int 26)))))))
 (sSeq (sIf (mBl (mBin (inD false) (mVar 1) (mCall 0 F__law_kept mNil)))
 (sRet (mBin addD (mC (.str [113])) (mSl (mVar 1) (oSome (mC (.int 1))) oNone)))
 sSkip)
 (sRet (mVar 1)))))
def F__law_name : MF := mkF 1 3 g__law_name
def g__law_names : MS := (sSeq (sSet 1 (mSl (mCall 1 F__law_name (mCons (mCall 2 F__law_mixed (mCons (mVar 0) (mCons (mC (.int 3)) mNil))) mNil)) oNone (oSome (mC (.int 7)))))
 (sSeq (sSet 2 (mOfF (mLstF (mCons (mVar 1) (mCons (mBin addD (mVar 1) (mC (.str [113]))) (mCons (mBin addD (mSl (mVar 1) oNone (oSome (mUn negD (mC (.int 1))))) (mC (.str [122]))) (mCons (mBin addD (mC (.str [122])) (mSl (mVar 1) (oSome (mC (.int 1))) oNone)) mNil)))))))
 (sRet (mBin addD (mVar 2) (mOfF (mLstF (mCons (mCall 1 F__law_name (mCons (mCall 2 F__law_mixed (mCons (mVar 0) (mCons (mC (.int 4)) mNil))) mNil)) (mCons (mCall 1 F__law_name (mCons (mCall 2 F__law_mixed (mCons (mVar 0) (mCons (mC (.int 5)) mNil))) mNil)) mNil))))))))
def F__law_names : MF := mkF 1 3 g__law_names
def g__law_leaf : MS := (sSeq (sIf (mBl (mBin eqA (mBin modD (mVar 1) (mC (.int 5))) (mC (.int 0))))
 (sRet (mTup (mCons (mTup (mCons (mC (.str [101, 109, 112, 116, 121])) mNil)) (mCons (mOfF (mLstF (mCons (mC (.str [101, 109, 112, 116, 121])) mNil))) (mCons (mC (.int 0)) mNil)))))
 sSkip)
 (sSeq (sIf (mBl (mBin ltD (mBin modD (mVar 1) (mC (.int 5))) (mC (.int 3))))
 (sSeq (sSet 3 (mBin ixD (mVar 2) (mBin modD (mBin fdivD (mVar 1) (mC (.int 5))) (mC (.int 6)))))
 (sRet (mTup (mCons (mTup (mCons (mC (.str [110, 97, 109, 101])) (mCons (mVar 3) mNil))) (mCons (mOfF (mLstF (mCons (mVar 3) mNil))) (mCons (mC (.int 0)) mNil))))))
 sSkip)
 (sSeq (sSet 4 (mBin modD (mBin addD (mVar 0) (mVar 1)) (mBin powD (mC (.int 10)) (mC (.int 6)))))
 (sSeq (sIf (mBl (mBin eqA (mBin modD (mBin fdivD (mVar 1) (mC (.int 5))) (mC (.int 2))) (mC (.int 0))))
 (sSet 4 (mBin modD (mBin fdivD (mVar 1) (mC (.int 10))) (mC (.int 12))))
 sSkip)
 (sRet (mTup (mCons (mTup (mCons (mC (.str [110, 117, 109])) (mCons (mVar 4) mNil))) (mCons (mOfF (mLstF (mCons (mUn strD (mVar 4)) mNil))) (mCons (mC (.int 0)) mNil)))))))))
def F__law_leaf : MF := mkF 3 5 g__law_leaf
def g__law_one : MS := (sSeq (sSet 3 (mBin ixD (mOfF (mLstF (mLit [[102, 110], [103, 101, 116], [108, 101, 115, 115], [116, 97, 103], [119, 105, 100, 101], [110, 101, 118, 101, 114]]))) (mBin modD (mVar 0) (mC (.int 6)))))
 (sSeq (sSet 4 (mBin ixD (mVar 1) (mBin modD (mBin fdivD (mVar 0) (mC (.int 6))) (mC (.int 6)))))
 (sSeq (sIf (mBl (mBin eqA (mVar 3) (mC (.str [110, 101, 118, 101, 114]))))
 (sRet (mTup (mCons (mTup (mCons (mC (.str [110, 101, 118, 101, 114])) (mCons (mBin ixD (mVar 2) (mC (.int 0))) mNil))) (mCons (mBin addD (mOfF (mLstF (mCons (mC (.str [110, 101, 118, 101, 114])) mNil))) (mBin ixD (mVar 2) (mC (.int 1)))) (mCons (mBin addD (mBin ixD (mVar 2) (mC (.int 2))) (mC (.int 1))) mNil)))))
 sSkip)
 (sRet (mTup (mCons (mTup (mCons (mVar 3) (mCons (mVar 4) (mCons (mBin ixD (mVar 2) (mC (.int 0))) mNil)))) (mCons (mBin addD (mOfF (mLstF (mCons (mVar 3) (mCons (mVar 4) mNil)))) (mBin ixD (mVar 2) (mC (.int 1)))) (mCons (mBin addD (mBin ixD (mVar 2) (mC (.int 2))) (mC (.int 1))) mNil))))))))
def F__law_one : MF := mkF 3 5 g__law_one
def g__law_two : MS := (sSeq (sSet 4 (mBin ixD (mOfF (mLstF (mLit [[100, 111], [43], [45], [42], [60], [119, 105, 116, 104], [112, 117, 116]]))) (mBin modD (mVar 0) (mC (.int 7)))))
 (sSeq (sSet 5 (mBin ixD (mVar 1) (mBin modD (mBin fdivD (mVar 0) (mC (.int 7))) (mC (.int 6)))))
 (sSeq (sSet 6 (mBin addD (mC (.int 1)) (mMax (mCons (mBin ixD (mVar 2) (mC (.int 2))) (mCons (mBin ixD (mVar 3) (mC (.int 2))) mNil)))))
 (sSeq (sIf (mBl (mBin ltD (mBin modD (mVar 0) (mC (.int 7))) (mC (.int 5))))
 (sRet (mTup (mCons (mTup (mCons (mVar 4) (mCons (mBin ixD (mVar 2) (mC (.int 0))) (mCons (mBin ixD (mVar 3) (mC (.int 0))) mNil)))) (mCons (mBin addD (mBin addD (mOfF (mLstF (mCons (mVar 4) mNil))) (mBin ixD (mVar 2) (mC (.int 1)))) (mBin ixD (mVar 3) (mC (.int 1)))) (mCons (mVar 6) mNil)))))
 sSkip)
 (sRet (mTup (mCons (mTup (mCons (mVar 4) (mCons (mVar 5) (mCons (mBin ixD (mVar 2) (mC (.int 0))) (mCons (mBin ixD (mVar 3) (mC (.int 0))) mNil))))) (mCons (mBin addD (mBin addD (mOfF (mLstF (mCons (mVar 4) (mCons (mVar 5) mNil)))) (mBin ixD (mVar 2) (mC (.int 1)))) (mBin ixD (mVar 3) (mC (.int 1)))) (mCons (mVar 6) mNil)))))))))
def F__law_two : MF := mkF 4 7 g__law_two
def g__law_three : MS := (sSeq (sAsg (mVar 2) (bdSeq 3 (bdCons (setV 3) (bdCons (setV 4) (bdCons (setV 5) bdNil)))))
 (sSeq (sSet 6 (mBin addD (mC (.int 1)) (mMax (mCons (mBin ixD (mVar 3) (mC (.int 2))) (mCons (mBin ixD (mVar 4) (mC (.int 2))) (mCons (mBin ixD (mVar 5) (mC (.int 2))) mNil))))))
 (sSeq (sSet 7 (mBin ixD (mVar 1) (mBin modD (mBin fdivD (mVar 0) (mC (.int 2))) (mC (.int 6)))))
 (sSeq (sSet 8 (mBin ixD (mVar 1) (mBin modD (mBin fdivD (mVar 0) (mC (.int 12))) (mC (.int 6)))))
 (sSeq (sSet 9 (mBin ixD (mVar 1) (mBin modD (mBin fdivD (mVar 0) (mC (.int 72))) (mC (.int 6)))))
 (sSeq (sIf (mBl (mBin eqA (mBin modD (mVar 0) (mC (.int 2))) (mC (.int 0))))
 (sRet (mTup (mCons (mTup (mCons (mC (.str [105, 102])) (mCons (mBin ixD (mVar 3) (mC (.int 0))) (mCons (mBin ixD (mVar 4) (mC (.int 0))) (mCons (mBin ixD (mVar 5) (mC (.int 0))) mNil))))) (mCons (mBin addD (mBin addD (mBin addD (mOfF (mLstF (mCons (mC (.str [105, 102])) mNil))) (mBin ixD (mVar 3) (mC (.int 1)))) (mBin ixD (mVar 4) (mC (.int 1)))) (mBin ixD (mVar 5) (mC (.int 1)))) (mCons (mVar 6) mNil)))))
 sSkip)
 (sSeq (sSet 10 (mTup (mCons (mC (.str [99, 97, 115, 101])) (mCons (mBin ixD (mVar 3) (mC (.int 0))) (mCons (mVar 7) (mCons (mVar 8) (mCons (mBin ixD (mVar 4) (mC (.int 0))) (mCons (mVar 9) (mCons (mBin ixD (mVar 5) (mC (.int 0))) mNil)))))))))
 (sRet (mTup (mCons (mVar 10) (mCons (mBin addD (mBin addD (mBin addD (mBin addD (mBin addD (mOfF (mLstF (mCons (mC (.str [99, 97, 115, 101])) mNil))) (mBin ixD (mVar 3) (mC (.int 1)))) (mOfF (mLstF (mCons (mVar 7) (mCons (mVar 8) mNil))))) (mBin ixD (mVar 4) (mC (.int 1)))) (mOfF (mLstF (mCons (mVar 9) mNil)))) (mBin ixD (mVar 5) (mC (.int 1)))) (mCons (mVar 6) mNil))))))))))))
def F__law_three : MF := mkF 3 11 g__law_three
def g__law_grown : MS := (sSeq (sSet 4 (mCall 2 F__law_mixed (mCons (mVar 1) (mCons (mBin addD (mC (.int 50)) (mVar 2)) mNil))))
 (sSeq (sSet 5 (mBin modD (mCall 2 F__law_mixed (mCons (mVar 1) (mCons (mBin addD (mC (.int 250)) (mVar 2)) mNil))) (mC (.int 9))))
 (sSeq (sIf (mAndT (mBl (mBin gtD (mVar 5) (mC (.int 6)))) (mAndT (mBl (mBin gtD (mUn lenD (mVar 0)) (mC (.int 2)))) (mBl (mBin ltD (mMaxL (mComp [] 1 (mIt (mSl (mVar 0) (oSome (mUn negD (mC (.int 3)))) oNone)) (setV 0) (mBin ixD (mVar 0) (mC (.int 2))))) (mC (.int 30))))))
 (sRet (mBin addD (mSl (mVar 0) oNone (oSome (mUn negD (mC (.int 3))))) (mOfF (mLstF (mCons (mCall 3 F__law_three (mCons (mVar 4) (mCons (mVar 3) (mCons (mSl (mVar 0) (oSome (mUn negD (mC (.int 3)))) oNone) mNil)))) mNil)))))
 sSkip)
 (sSeq (sIf (mAndT (mBl (mBin gtD (mVar 5) (mC (.int 4)))) (mAndT (mBl (mBin gtD (mUn lenD (mVar 0)) (mC (.int 1)))) (mBl (mBin ltD (mMaxL (mComp [] 1 (mIt (mSl (mVar 0) (oSome (mUn negD (mC (.int 2)))) oNone)) (setV 0) (mBin ixD (mVar 0) (mC (.int 2))))) (mC (.int 30))))))
 (sRet (mBin addD (mSl (mVar 0) oNone (oSome (mUn negD (mC (.int 2))))) (mOfF (mLstF (mCons (mCall 4 F__law_two (mCons (mVar 4) (mCons (mVar 3) (mCons (mBin ixD (mVar 0) (mUn negD (mC (.int 2)))) (mCons (mBin ixD (mVar 0) (mUn negD (mC (.int 1)))) mNil))))) mNil)))))
 sSkip)
 (sSeq (sIf (mAndT (mBl (mBin gtD (mVar 5) (mC (.int 2)))) (mAndT (mBl (mBin gtD (mUn lenD (mVar 0)) (mC (.int 0)))) (mBl (mBin ltD (mBin ixD (mBin ixD (mVar 0) (mUn negD (mC (.int 1)))) (mC (.int 2))) (mC (.int 30))))))
 (sRet (mBin addD (mSl (mVar 0) oNone (oSome (mUn negD (mC (.int 1))))) (mOfF (mLstF (mCons (mCall 3 F__law_one (mCons (mVar 4) (mCons (mVar 3) (mCons (mBin ixD (mVar 0) (mUn negD (mC (.int 1)))) mNil)))) mNil)))))
 sSkip)
 (sRet (mBin addD (mVar 0) (mOfF (mLstF (mCons (mCall 3 F__law_leaf (mCons (mVar 1) (mCons (mVar 4) (mCons (mVar 3) mNil)))) mNil))))))))))
def F__law_grown : MF := mkF 4 6 g__law_grown
def g__law_alike (m : MF) : MS := (sSeq (sIf (mOrT (mTru (mUn (instD "tuple") (mVar 1))) (mTru (mUn (instD "list") (mVar 1))))
 (sSeq (sIf (mOrT (mBl (mBin neA (mUn (instD "tuple") (mVar 0)) (mUn (instD "tuple") (mVar 1)))) (mBl (mBin neA (mUn (instD "list") (mVar 0)) (mUn (instD "list") (mVar 1)))))
 (sRet (mC (.bl false)))
 sSkip)
 (sSeq (sIf (mBl (mBin neA (mUn lenD (mVar 0)) (mUn lenD (mVar 1))))
 (sRet (mC (.bl false)))
 sSkip)
 (sSeq (sFor (bdSeq 2 (bdCons (setV 2) (bdCons (setV 3) bdNil))) (mZip (mVar 0) (mVar 1))
 (sIf (mNotT (mTru (mCall 2 m (mCons (mVar 2) (mCons (mVar 3) mNil)))))
 (sRet (mC (.bl false)))
 sSkip))
 (sRet (mC (.bl true))))))
 sSkip)
 (sSeq (sIf (mTru (mUn (instD "int") (mVar 1)))
 (sRet (mAnd (mUn (instD "int") (mVar 0)) (mAnd (mUn notD (mUn (instD "bool") (mVar 0))) (mBin eqA (mVar 0) (mVar 1)))))
 sSkip)
 (sRet (mAnd (mUn (instD "str") (mVar 0)) (mBin eqA (mVar 0) (mVar 1))))))
def F__law_alike : Nat → MF
  | 0 => fun _ => none
  | k + 1 => mkF 2 4 (g__law_alike (F__law_alike k))
def g__law_deepened : MS := (sSeq (sFor (setV 3) (mRng1 (mBin subD (mC (.int 30)) (mBin ixD (mVar 0) (mC (.int 2)))))
 (sSet 0 (mCall 3 F__law_one (mCons (mCall 2 F__law_mixed (mCons (mVar 1) (mCons (mBin addD (mC (.int 700)) (mVar 3)) mNil))) (mCons (mVar 2) (mCons (mVar 0) mNil))))))
 (sRet (mVar 0)))
def F__law_deepened : MF := mkF 3 4 g__law_deepened
def g_law : MS := (sSeq (sSet 1 (mCall 2 F__law_cell (mCons (mVar 0) (mCons (mC (.int 0)) mNil))))
 (sSeq (sSet 2 (mCall 1 F__law_names (mCons (mVar 1) mNil)))
 (sSeq (sSet 3 (mOfF (mLstF (mCons (mCall 3 F__law_leaf (mCons (mVar 1) (mCons (mCall 2 F__law_mixed (mCons (mVar 1) (mCons (mC (.int 1)) mNil))) (mCons (mVar 2) mNil)))) mNil))))
 (sSeq (sFor (bdSeq 2 (bdCons (setV 4) (bdCons (setV 5) bdNil))) (mEnum (mSl (mVar 0) (oSome (mC (.int 1))) (oSome (mC (.int 201)))))
 (sSet 3 (mCall 4 F__law_grown (mCons (mVar 3) (mCons (mVar 5) (mCons (mVar 4) (mCons (mVar 2) mNil)))))))
 (sSeq (sIf (mBl (mBin eqA (mBin modD (mCall 2 F__law_mixed (mCons (mVar 1) (mCons (mC (.int 2)) mNil))) (mC (.int 4))) (mC (.int 0))))
 (sSet 3 (mBin addD (mSl (mVar 3) oNone (oSome (mUn negD (mC (.int 1))))) (mOfF (mLstF (mCons (mCall 3 F__law_deepened (mCons (mBin ixD (mVar 3) (mUn negD (mC (.int 1)))) (mCons (mVar 1) (mCons (mVar 2) mNil)))) mNil)))))
 sSkip)
 (sSeq (sFor (bdSeq 3 (bdCons (setV 6) (bdCons (setV 7) (bdCons (setV 8) bdNil)))) (mIt (mVar 3))
 (sSeq (sSet 9 (mJoin (mC (.str [32])) (mAsL (mVar 7))))
 (sIf (mOrT (mNotT (mTru (mCall 2 (F__law_alike RF) (mCons (mCall 1 F_read_expression (mCons (mVar 9) mNil)) (mCons (mVar 6) mNil))))) (mNotT (mTru (mCall 2 (F__law_alike RF) (mCons (mCall 1 F_shown_expression (mCons (mVar 6) mNil)) (mCons (mVar 9) mNil))))))
 (sRet (mC (.bl false)))
 sSkip)))
 (sRet (mC (.bl true)))))))))
def F_law : MF := mkF 1 10 g_law
structure Txt (K : PySem.W.Frag) (mg : Str → Option Value) (Ps : Params) where
  a_all_between : Addr
  d_all_between : FuncData
  F_all_between : Fun K "all_between" "all_between" (top 9) a_all_between d_all_between
  m_all_between : mg "all_between" = some (.ref a_all_between)
  b_all_between : Binds K d_all_between ["text", "least", "greatest"] []
  a_is_name : Addr
  d_is_name : FuncData
  F_is_name : Fun K "is_name" "is_name" (top 10) a_is_name d_is_name
  m_is_name : mg "is_name" = some (.ref a_is_name)
  b_is_name : Binds K d_is_name ["text"] []
  a_is_number : Addr
  d_is_number : FuncData
  F_is_number : Fun K "is_number" "is_number" (top 11) a_is_number d_is_number
  m_is_number : mg "is_number" = some (.ref a_is_number)
  b_is_number : Binds K d_is_number ["text"] []
  a_read_number : Addr
  d_read_number : FuncData
  F_read_number : Fun K "read_number" "read_number" (top 12) a_read_number d_read_number
  m_read_number : mg "read_number" = some (.ref a_read_number)
  b_read_number : Binds K d_read_number ["text"] []
  a_take_word : Addr
  d_take_word : FuncData
  F_take_word : Fun K "take_word" "take_word" (top 14) a_take_word d_take_word
  m_take_word : mg "take_word" = some (.ref a_take_word)
  b_take_word : Binds K d_take_word ["waiting"] []
  a_take_name : Addr
  d_take_name : FuncData
  F_take_name : Fun K "take_name" "take_name" (top 15) a_take_name d_take_name
  m_take_name : mg "take_name" = some (.ref a_take_name)
  b_take_name : Binds K d_take_name ["waiting"] []
  a_read_leaf : Addr
  d_read_leaf : FuncData
  F_read_leaf : Fun K "read_leaf" "read_leaf" (top 17) a_read_leaf d_read_leaf
  m_read_leaf : mg "read_leaf" = some (.ref a_read_leaf)
  b_read_leaf : Binds K d_read_leaf ["word"] []
  a_take_expression : Addr
  d_take_expression : FuncData
  F_take_expression : Fun K "take_expression" "take_expression" (top 16) a_take_expression d_take_expression
  m_take_expression : mg "take_expression" = some (.ref a_take_expression)
  b_take_expression : Binds K d_take_expression ["waiting", "around"] []
  a_read_expression : Addr
  d_read_expression : FuncData
  F_read_expression : Fun K "read_expression" "read_expression" (top 13) a_read_expression d_read_expression
  m_read_expression : mg "read_expression" = some (.ref a_read_expression)
  b_read_expression : Binds K d_read_expression ["text"] []
  a_written_parts : Addr
  d_written_parts : FuncData
  F_written_parts : Fun K "written_parts" "written_parts" (top 19) a_written_parts d_written_parts
  m_written_parts : mg "written_parts" = some (.ref a_written_parts)
  b_written_parts : Binds K d_written_parts ["expression"] []
  a_shown_expression : Addr
  d_shown_expression : FuncData
  F_shown_expression : Fun K "shown_expression" "shown_expression" (top 18) a_shown_expression d_shown_expression
  m_shown_expression : mg "shown_expression" = some (.ref a_shown_expression)
  b_shown_expression : Binds K d_shown_expression ["E"] []
  a__law_cell : Addr
  d__law_cell : FuncData
  F__law_cell : Fun K "_law_cell" "_law_cell" (top 21) a__law_cell d__law_cell
  m__law_cell : mg "_law_cell" = some (.ref a__law_cell)
  b__law_cell : Binds K d__law_cell ["_law_script", "_law_k"] []
  a__law_mixed : Addr
  d__law_mixed : FuncData
  F__law_mixed : Fun K "_law_mixed" "_law_mixed" (top 22) a__law_mixed d__law_mixed
  m__law_mixed : mg "_law_mixed" = some (.ref a__law_mixed)
  b__law_mixed : Binds K d__law_mixed ["_law_cell_here", "_law_k"] []
  a__law_kept : Addr
  d__law_kept : FuncData
  F__law_kept : Fun K "_law_kept" "_law_kept" (top 23) a__law_kept d__law_kept
  m__law_kept : mg "_law_kept" = some (.ref a__law_kept)
  b__law_kept : Binds K d__law_kept [] []
  a__law_name : Addr
  d__law_name : FuncData
  F__law_name : Fun K "_law_name" "_law_name" (top 24) a__law_name d__law_name
  m__law_name : mg "_law_name" = some (.ref a__law_name)
  b__law_name : Binds K d__law_name ["_law_number"] []
  a__law_names : Addr
  d__law_names : FuncData
  F__law_names : Fun K "_law_names" "_law_names" (top 25) a__law_names d__law_names
  m__law_names : mg "_law_names" = some (.ref a__law_names)
  b__law_names : Binds K d__law_names ["_law_cell_here"] []
  a__law_leaf : Addr
  d__law_leaf : FuncData
  F__law_leaf : Fun K "_law_leaf" "_law_leaf" (top 26) a__law_leaf d__law_leaf
  m__law_leaf : mg "_law_leaf" = some (.ref a__law_leaf)
  b__law_leaf : Binds K d__law_leaf ["_law_cell_here", "_law_number", "_law_names_here"] []
  a__law_one : Addr
  d__law_one : FuncData
  F__law_one : Fun K "_law_one" "_law_one" (top 27) a__law_one d__law_one
  m__law_one : mg "_law_one" = some (.ref a__law_one)
  b__law_one : Binds K d__law_one ["_law_number", "_law_names_here", "_law_one_here"] []
  a__law_two : Addr
  d__law_two : FuncData
  F__law_two : Fun K "_law_two" "_law_two" (top 28) a__law_two d__law_two
  m__law_two : mg "_law_two" = some (.ref a__law_two)
  b__law_two : Binds K d__law_two ["_law_number", "_law_names_here", "_law_one_here", "_law_other"] []
  a__law_three : Addr
  d__law_three : FuncData
  F__law_three : Fun K "_law_three" "_law_three" (top 29) a__law_three d__law_three
  m__law_three : mg "_law_three" = some (.ref a__law_three)
  b__law_three : Binds K d__law_three ["_law_number", "_law_names_here", "_law_parts_here"] []
  a__law_grown : Addr
  d__law_grown : FuncData
  F__law_grown : Fun K "_law_grown" "_law_grown" (top 30) a__law_grown d__law_grown
  m__law_grown : mg "_law_grown" = some (.ref a__law_grown)
  b__law_grown : Binds K d__law_grown ["_law_pile", "_law_cell_here", "_law_k", "_law_names_here"] []
  a__law_alike : Addr
  d__law_alike : FuncData
  F__law_alike : Fun K "_law_alike" "_law_alike" (top 31) a__law_alike d__law_alike
  m__law_alike : mg "_law_alike" = some (.ref a__law_alike)
  b__law_alike : Binds K d__law_alike ["_law_found", "_law_due"] []
  a__law_deepened : Addr
  d__law_deepened : FuncData
  F__law_deepened : Fun K "_law_deepened" "_law_deepened" (top 32) a__law_deepened d__law_deepened
  m__law_deepened : mg "_law_deepened" = some (.ref a__law_deepened)
  b__law_deepened : Binds K d__law_deepened ["_law_item", "_law_cell_here", "_law_names_here"] []
  a_law : Addr
  d_law : FuncData
  F_law : Fun K "law" "law" (top 33) a_law d_law
  m_law : mg "law" = some (.ref a_law)
  b_law : Binds K d_law ["_law_script"] []
  z_all : mg "all" = none
  z_bool : mg "bool" = none
  z_enumerate : mg "enumerate" = none
  z_int : mg "int" = none
  z_isinstance : mg "isinstance" = none
  z_len : mg "len" = none
  z_list : mg "list" = none
  z_max : mg "max" = none
  z_range : mg "range" = none
  z_str : mg "str" = none
  z_tuple : mg "tuple" = none
  z_zip : mg "zip" = none
  c_LONGEST_NAME : ∃ t, mg "LONGEST_NAME" = some (.int 8 t)
  c_MOST_FIGURES : ∃ t, mg "MOST_FIGURES" = some (.int 6 t)
  c_DEEPEST : ∃ t, mg "DEEPEST" = some (.int 30 t)
  c_KEPT_WORDS : GTup mg K "KEPT_WORDS" C_KEPT_WORDS
  c_FORMS : GDict mg K Ps "FORMS" C_FORMS
section
variable {P : Program} {w : World} {K : PySem.W.Frag} {mg : Str → Option Value} {base : Heap}
theorem sc_all_between : FnScope ["text", "least", "greatest"] ["text", "least", "greatest"] (defScope (top 9)) := ⟨rfl, rfl, rfl, by decide +kernel, rfl, by decide +kernel, by decide +kernel⟩
theorem ok_all_between (T : Txt K mg w.params) : FnOk P w K mg base CX0 1 T.a_all_between T.d_all_between ["text", "least", "greatest"] (spD K 3 F_all_between) := by
  refine fn_d T.F_all_between sc_all_between 3 3 rfl rfl (g := g_all_between) (fun cdv A outer s H E hr => ?_)
  unfold g_all_between
  exact (by refine ds_one ?_; exact (by refine ds_ret ?_; exact (de_all (by rfl) T.z_all (db_f (df_comp (N' := ["least", "greatest", "sign"]) (cap := [1, 2]) rfl cmp_mk (di_str (de_var 0 (pv 0))) (fun _ _ _ _ => (dg_name 2 (show (["least", "greatest", "sign"] : List Str).Nodup by decide +kernel))) (fun _ _ _ _ => (de_chain op_leA od_leA op_leA od_leA (de_var 0 (pv 0)) (de_var 2 (pv 2)) (de_var 1 (pv 1)))) 3)))))
theorem sc_is_name : FnScope ["text"] ["text"] (defScope (top 10)) := ⟨rfl, rfl, rfl, by decide +kernel, rfl, by decide +kernel, by decide +kernel⟩
theorem ok_is_name (T : Txt K mg w.params) : FnOk P w K mg base CX0 2 T.a_is_name T.d_is_name ["text"] (spD K 1 F_is_name) := by
  refine fn_d T.F_is_name sc_is_name 1 1 rfl rfl (g := g_is_name) (fun cdv A outer s H E hr => ?_)
  unfold g_is_name
  exact (by refine ds_one ?_; exact (by refine ds_ret ?_; exact (de_and (de_chain op_leA od_leA op_leA od_leA de_int (de_len (by rfl) T.z_len (de_var 0 (pv 0))) (de_gint T.c_LONGEST_NAME (by rfl))) (de_and (de_call (ok_all_between T) (hr.mono (by decide)) (by rfl) T.m_all_between T.F_all_between.kp T.b_all_between (by refine da_cons (de_var 0 (pv 0)) ?_ (hs := stName); refine da_cons (de_str (s := [97]) (by rfl)) ?_ (hs := stConst); refine da_cons (de_str (s := [122]) (by rfl)) ?_ (hs := stConst); exact da_nil)) (de_one (de_cmp op_notIn_seq (od_in true) (de_var 0 (pv 0)) (de_gtup T.c_KEPT_WORDS (by rfl)) rfl))))))
theorem sc_is_number : FnScope ["text"] ["text"] (defScope (top 11)) := ⟨rfl, rfl, rfl, by decide +kernel, rfl, by decide +kernel, by decide +kernel⟩
theorem ok_is_number (T : Txt K mg w.params) : FnOk P w K mg base CX0 2 T.a_is_number T.d_is_number ["text"] (spD K 1 F_is_number) := by
  refine fn_d T.F_is_number sc_is_number 1 1 rfl rfl (g := g_is_number) (fun cdv A outer s H E hr => ?_)
  unfold g_is_number
  exact (by refine ds_cons ?_ ?_; exact (ds_if (dt_w (dw_or (dt_not (dt_chain op_leA od_leA op_leA od_leA de_int (de_len (by rfl) T.z_len (de_var 0 (pv 0))) (de_gint T.c_MOST_FIGURES (by rfl)))) (dw_or1 (dt_not (dt_tru (de_call (ok_all_between T) (hr.mono (by decide)) (by rfl) T.m_all_between T.F_all_between.kp T.b_all_between (by refine da_cons (de_var 0 (pv 0)) ?_ (hs := stName); refine da_cons (de_str (s := [48]) (by rfl)) ?_ (hs := stConst); refine da_cons (de_str (s := [57]) (by rfl)) ?_ (hs := stConst); exact da_nil))))))) (by refine ds_one ?_; exact (by refine ds_ret ?_; exact de_bl)) ds_nil); exact (by refine ds_one ?_; exact (by refine ds_ret ?_; exact (de_or (de_cmp (op_eqA hr.units0) od_eqA (de_var 0 (pv 0)) (de_str (s := [48]) (by rfl)) (nomark _)) (de_one (de_cmp (op_neA hr.units0) od_neA (de_ix (de_var 0 (pv 0)) de_int) (de_str (s := [48]) (by rfl)) (nomark _)))))))
theorem sc_read_number : FnScope ["text"] ["text"] (defScope (top 12)) := ⟨rfl, rfl, rfl, by decide +kernel, rfl, by decide +kernel, by decide +kernel⟩
theorem ok_read_number (T : Txt K mg w.params) : FnOk P w K mg base CX0 3 T.a_read_number T.d_read_number ["text"] (spD K 1 F_read_number) := by
  refine fn_d T.F_read_number sc_read_number 1 1 rfl rfl (g := g_read_number) (fun cdv A outer s H E hr => ?_)
  unfold g_read_number
  exact (by refine ds_cons ?_ ?_; exact (ds_if (dt_not (dt_tru (de_call (ok_is_number T) (hr.mono (by decide)) (by rfl) T.m_is_number T.F_is_number.kp T.b_is_number (da_cons (de_var 0 (pv 0)) da_nil (hs := stName))))) (by refine ds_one ?_; exact ds_never) ds_nil); exact (by refine ds_one ?_; exact (by refine ds_ret ?_; exact (de_intOf (by rfl) T.z_int (de_var 0 (pv 0))))))
theorem sc_take_word : FnScope ["waiting"] ["waiting"] (defScope (top 14)) := ⟨rfl, rfl, rfl, by decide +kernel, rfl, by decide +kernel, by decide +kernel⟩
theorem ok_take_word (T : Txt K mg w.params) : FnOk P w K mg base CX0 1 T.a_take_word T.d_take_word ["waiting"] (spD K 1 F_take_word) := by
  refine fn_d T.F_take_word sc_take_word 1 1 rfl rfl (g := g_take_word) (fun cdv A outer s H E hr => ?_)
  unfold g_take_word
  exact (by refine ds_cons ?_ ?_; exact (ds_if (dt_not (dt_truB (db_own 0 (pv 0)))) (by refine ds_one ?_; exact ds_never) ds_nil); exact (by refine ds_one ?_; exact (ds_retX (dx_pop 0 (pv 0)))))
theorem sc_take_name : FnScope ["waiting", "word"] ["waiting"] (defScope (top 15)) := ⟨rfl, rfl, rfl, by decide +kernel, rfl, by decide +kernel, by decide +kernel⟩
theorem ok_take_name (T : Txt K mg w.params) : FnOk P w K mg base CX0 3 T.a_take_name T.d_take_name ["waiting"] (spD K 1 F_take_name) := by
  refine fn_d T.F_take_name sc_take_name 1 2 rfl rfl (g := g_take_name) (fun cdv A outer s H E hr => ?_)
  unfold g_take_name
  exact (by refine ds_cons ?_ ?_; exact (ds_setX 1 (dx_call (ok_take_word T) (hr.mono (by decide)) (by rfl) T.m_take_word T.F_take_word.kp T.b_take_word (dz_p (pv 0) da_nil)) sc_take_name.nd); exact (by refine ds_cons ?_ ?_; exact (ds_if (dt_not (dt_tru (de_call (ok_is_name T) (hr.mono (by decide)) (by rfl) T.m_is_name T.F_is_name.kp T.b_is_name (da_cons (de_var 1 (pv 1)) da_nil (hs := stName))))) (by refine ds_one ?_; exact ds_never) ds_nil); exact (by refine ds_one ?_; exact (by refine ds_ret ?_; exact (de_var 1 (pv 1))))))
theorem sc_read_leaf : FnScope ["word"] ["word"] (defScope (top 17)) := ⟨rfl, rfl, rfl, by decide +kernel, rfl, by decide +kernel, by decide +kernel⟩
theorem ok_read_leaf (T : Txt K mg w.params) : FnOk P w K mg base CX0 4 T.a_read_leaf T.d_read_leaf ["word"] (spD K 1 F_read_leaf) := by
  refine fn_d T.F_read_leaf sc_read_leaf 1 1 rfl rfl (g := g_read_leaf) (fun cdv A outer s H E hr => ?_)
  unfold g_read_leaf
  exact (by refine ds_cons ?_ ?_; exact (ds_if (dt_tru (de_call (ok_is_name T) (hr.mono (by decide)) (by rfl) T.m_is_name T.F_is_name.kp T.b_is_name (da_cons (de_var 0 (pv 0)) da_nil (hs := stName)))) (by refine ds_one ?_; exact (by refine ds_ret ?_; exact (by refine de_tup ?_; exact (da_cons (de_str (s := [110, 97, 109, 101]) (by rfl)) (da_cons (de_var 0 (pv 0)) da_nil (hs := stName)) (hs := stConst))))) ds_nil); exact (by refine ds_one ?_; exact (by refine ds_ret ?_; exact (by refine de_tup ?_; exact (da_cons (de_str (s := [110, 117, 109]) (by rfl)) (da_cons (de_call (ok_read_number T) (hr.mono (by decide)) (by rfl) T.m_read_number T.F_read_number.kp T.b_read_number (da_cons (de_var 0 (pv 0)) da_nil (hs := stName))) da_nil (hs := stCall)) (hs := stConst))))))
theorem sc_take_expression : FnScope ["waiting", "around", "word", "taken", "part"] ["waiting", "around"] (defScope (top 16)) := ⟨rfl, rfl, rfl, by decide +kernel, rfl, by decide +kernel, by decide +kernel⟩
theorem ok_take_expression : ∀ (k : Nat) (T : Txt K mg w.params), FnOk P w K mg base CX0 (k + 4) T.a_take_expression T.d_take_expression ["waiting", "around"] (spD K 2 (F_take_expression k))
  | 0, T => fn_0 2
  | k + 1, T => by
    have G := ok_take_expression k T
    rw [show k + 1 + 4 = (k + 4) + 1 by omega]
    refine fn_d T.F_take_expression sc_take_expression 2 5 rfl rfl (g := g_take_expression (F_take_expression k)) (fun cdv A outer s H E hr => ?_)
    unfold g_take_expression
    exact (by refine ds_cons ?_ ?_; exact (ds_if (dt_cmp op_gt od_gt (de_var 1 (pv 1)) (de_gint T.c_DEEPEST (by rfl)) (nomark _)) (by refine ds_one ?_; exact ds_never) ds_nil); exact (by refine ds_cons ?_ ?_; exact (ds_setX 2 (dx_call (ok_take_word T) (hr.mono (by omega)) (by rfl) T.m_take_word T.F_take_word.kp T.b_take_word (dz_p (pv 0) da_nil)) sc_take_expression.nd); exact (by refine ds_cons ?_ ?_; exact (ds_if (dt_notHas T.c_FORMS (by rfl) (de_var 2 (pv 2))) (by refine ds_one ?_; exact (by refine ds_ret ?_; exact (de_call (ok_read_leaf T) (hr.mono (by omega)) (by rfl) T.m_read_leaf T.F_read_leaf.kp T.b_read_leaf (da_cons (de_var 2 (pv 2)) da_nil (hs := stName))))) ds_nil); exact (by refine ds_cons ?_ ?_; exact (ds_own 3 (by refine df_lst ?_; exact (da_cons (de_var 2 (pv 2)) da_nil (hs := stName))) sc_take_expression.nd); exact (by refine ds_cons ?_ ?_; exact (ds_for PassesOwn.never rfl (di_str (de_gat T.c_FORMS (by rfl) (de_var 2 (pv 2)))) (dg_name 4 sc_take_expression.nd) (by refine ds_one ?_; exact (ds_if (dt_cmp (op_eqA hr.units0) od_eqA (de_var 4 (pv 4)) (de_str (s := [110]) (by rfl)) (nomark _)) (by refine ds_one ?_; exact (ds_x (dx_appendX 3 (pv 3) (dx_call (ok_take_name T) (hr.mono (by omega)) (by rfl) T.m_take_name T.F_take_name.kp T.b_take_name (dz_p (pv 0) da_nil))))) (by refine ds_one ?_; exact (ds_x (dx_appendX 3 (pv 3) (dx_call G (hr.mono (by omega)) (by rfl) T.m_take_expression T.F_take_expression.kp T.b_take_expression (dz_p (pv 0) (da_cons (de_bin op_plus od_plus (de_var 1 (pv 1)) de_int) da_nil (hs := stBin)))))))))); exact (by refine ds_one ?_; exact (by refine ds_ret ?_; exact (de_tupleOf (by rfl) T.z_tuple (db_own 3 (pv 3))))))))))
theorem sc_read_expression : FnScope ["text", "waiting", "expression"] ["text"] (defScope (top 13)) := ⟨rfl, rfl, rfl, by decide +kernel, rfl, by decide +kernel, by decide +kernel⟩
theorem ok_read_expression (T : Txt K mg w.params) : FnOk P w K mg base CX0 45 T.a_read_expression T.d_read_expression ["text"] (spD K 1 F_read_expression) := by
  refine fn_d T.F_read_expression sc_read_expression 1 3 rfl rfl (g := g_read_expression) (fun cdv A outer s H E hr => ?_)
  unfold g_read_expression
  exact (by refine ds_cons ?_ ?_; exact (ds_own 1 (df_rev (db_f (df_split (de_var 0 (pv 0)) (de_str (s := [32]) (by rfl))))) sc_read_expression.nd); exact (by refine ds_cons ?_ ?_; exact (ds_setX 2 (dx_call (ok_take_expression RF T) (hr.mono (by decide)) (by rfl) T.m_take_expression T.F_take_expression.kp T.b_take_expression (dz_p (pv 1) (da_cons de_int da_nil (hs := stConst)))) sc_read_expression.nd); exact (by refine ds_cons ?_ ?_; exact (ds_if (dt_truB (db_own 1 (pv 1))) (by refine ds_one ?_; exact ds_never) ds_nil); exact (by refine ds_one ?_; exact (by refine ds_ret ?_; exact (de_var 2 (pv 2)))))))
theorem sc_written_parts : FnScope ["expression"] ["expression"] (defScope (top 19)) := ⟨rfl, rfl, rfl, by decide +kernel, rfl, by decide +kernel, by decide +kernel⟩
theorem ok_written_parts (T : Txt K mg w.params) : FnOk P w K mg base CX0 1 T.a_written_parts T.d_written_parts ["expression"] (spD K 1 F_written_parts) := by
  refine fn_d T.F_written_parts sc_written_parts 1 1 rfl rfl (g := g_written_parts) (fun cdv A outer s H E hr => ?_)
  unfold g_written_parts
  exact (by refine ds_cons ?_ ?_; exact (ds_if (dt_cmp op_in_seq (od_in false) (de_ix (de_var 0 (pv 0)) de_int) (by refine de_tup ?_; exact (da_cons (de_str (s := [110, 117, 109]) (by rfl)) (da_cons (de_str (s := [110, 97, 109, 101]) (by rfl)) da_nil (hs := stConst)) (hs := stConst))) rfl) (by refine ds_one ?_; exact (by refine ds_ret ?_; exact (de_sl (de_var 0 (pv 0)) (do_some de_int) do_none))) ds_nil); exact (by refine ds_one ?_; exact (by refine ds_ret ?_; exact (de_var 0 (pv 0)))))
theorem sc_shown_expression : FnScope ["E", "words", "waiting", "part"] ["E"] (defScope (top 18)) := ⟨rfl, rfl, rfl, by decide +kernel, rfl, by decide +kernel, by decide +kernel⟩
theorem ok_shown_expression (T : Txt K mg w.params) : FnOk P w K mg base CX0 2 T.a_shown_expression T.d_shown_expression ["E"] (spD K 1 F_shown_expression) := by
  refine fn_d T.F_shown_expression sc_shown_expression 1 4 rfl rfl (g := g_shown_expression) (fun cdv A outer s H E hr => ?_)
  unfold g_shown_expression
  exact (by refine ds_cons ?_ ?_; exact (ds_own 1 (by refine df_lst ?_; exact da_nil) sc_shown_expression.nd); exact (by refine ds_cons ?_ ?_; exact (ds_own 2 (by refine df_lst ?_; exact (da_cons (de_var 0 (pv 0)) da_nil (hs := stName))) sc_shown_expression.nd); exact (by refine ds_cons ?_ ?_; exact (ds_while WF PassesOwn.never (dt_truB (db_own 2 (pv 2))) (by refine ds_cons ?_ ?_; exact (ds_setX 3 (dx_pop 2 (pv 2)) sc_shown_expression.nd); exact (by refine ds_one ?_; exact (ds_if (dt_tru (de_isinst (by rfl) T.z_isinstance (de_var 3 (pv 3)) (pe_bltn (by rfl) T.z_tuple boot_tuple rfl))) (by refine ds_one ?_; exact (ds_x (dx_extend 2 (pv 2) (de_rev (de_call (ok_written_parts T) (hr.mono (by decide)) (by rfl) T.m_written_parts T.F_written_parts.kp T.b_written_parts (da_cons (de_var 3 (pv 3)) da_nil (hs := stName))))))) (by refine ds_one ?_; exact (ds_x (dx_append 1 (pv 1) (de_strOf (by rfl) T.z_str (de_var 3 (pv 3)))))))))); exact (by refine ds_one ?_; exact (by refine ds_ret ?_; exact (de_join (de_str (s := [32]) (by rfl)) (db_own 1 (pv 1))))))))
theorem sc__law_cell : FnScope ["_law_script", "_law_k"] ["_law_script", "_law_k"] (defScope (top 21)) := ⟨rfl, rfl, rfl, by decide +kernel, rfl, by decide +kernel, by decide +kernel⟩
theorem ok__law_cell (T : Txt K mg w.params) : FnOk P w K mg base CX0 1 T.a__law_cell T.d__law_cell ["_law_script", "_law_k"] (spD K 2 F__law_cell) := by
  refine fn_d T.F__law_cell sc__law_cell 2 2 rfl rfl (g := g__law_cell) (fun cdv A outer s H E hr => ?_)
  unfold g__law_cell
  exact (by refine ds_cons ?_ ?_; exact (ds_if (dt_cmp op_lt od_lt (de_var 1 (pv 1)) (de_len (by rfl) T.z_len (de_var 0 (pv 0))) (nomark _)) (by refine ds_one ?_; exact (by refine ds_ret ?_; exact (de_ix (de_var 0 (pv 0)) (de_var 1 (pv 1))))) ds_nil); exact (by refine ds_one ?_; exact (by refine ds_ret ?_; exact de_int)))
theorem sc__law_mixed : FnScope ["_law_cell_here", "_law_k", "_law_number"] ["_law_cell_here", "_law_k"] (defScope (top 22)) := ⟨rfl, rfl, rfl, by decide +kernel, rfl, by decide +kernel, by decide +kernel⟩
theorem ok__law_mixed (T : Txt K mg w.params) : FnOk P w K mg base CX0 1 T.a__law_mixed T.d__law_mixed ["_law_cell_here", "_law_k"] (spD K 2 F__law_mixed) := by
  refine fn_d T.F__law_mixed sc__law_mixed 2 3 rfl rfl (g := g__law_mixed) (fun cdv A outer s H E hr => ?_)
  unfold g__law_mixed
  exact (by refine ds_cons ?_ ?_; exact (ds_set 2 (de_bin op_mod od_mod (de_bin op_plus od_plus (de_bin op_plus od_plus (de_bin op_mod od_mod (de_var 0 (pv 0)) de_int) (de_bin op_mul od_mul de_int (de_var 1 (pv 1)))) de_int) de_int) sc__law_mixed.nd); exact (by refine ds_cons ?_ ?_; exact (ds_set 2 (de_bin op_mod od_mod (de_bin op_mul od_mul (de_var 2 (pv 2)) (de_var 2 (pv 2))) de_int) sc__law_mixed.nd); exact (by refine ds_one ?_; exact (by refine ds_ret ?_; exact (de_bin op_fdiv od_fdiv (de_bin op_mod od_mod (de_bin op_mul od_mul (de_var 2 (pv 2)) (de_bin op_plus od_plus (de_var 2 (pv 2)) de_int)) de_int) de_int)))))
theorem sc__law_kept : FnScope [] [] (defScope (top 23)) := ⟨rfl, rfl, rfl, by decide +kernel, rfl, by decide +kernel, by decide +kernel⟩
theorem ok__law_kept (T : Txt K mg w.params) : FnOk P w K mg base CX0 1 T.a__law_kept T.d__law_kept [] (spD K 0 F__law_kept) := by
  refine fn_d T.F__law_kept sc__law_kept 0 0 rfl rfl (g := g__law_kept) (fun cdv A outer s H E hr => ?_)
  unfold g__law_kept
  exact (by refine ds_one ?_; exact (by refine ds_ret ?_; exact (by refine de_f ?_; exact (by refine df_lst ?_; exact (by refine da_strs (ss := [[100, 101, 102], [102, 110], [100, 111], [101, 109, 112, 116, 121], [103, 101, 116], [119, 105, 116, 104], [112, 117, 116], [108, 101, 115, 115], [116, 97, 103], [119, 105, 100, 101], [99, 97, 115, 101], [110, 101, 118, 101, 114], [105, 102]]) ?_; rfl)))))
theorem sc__law_name : FnScope ["_law_number", "_law_word", "_law_k"] ["_law_number"] (defScope (top 24)) := ⟨rfl, rfl, rfl, by decide +kernel, rfl, by decide +kernel, by decide +kernel⟩
theorem ok__law_name (T : Txt K mg w.params) : FnOk P w K mg base CX0 2 T.a__law_name T.d__law_name ["_law_number"] (spD K 1 F__law_name) := by
  refine fn_d T.F__law_name sc__law_name 1 3 rfl rfl (g := g__law_name) (fun cdv A outer s H E hr => ?_)
  unfold g__law_name
  exact (by refine ds_cons ?_ ?_; exact (ds_set 1 (de_str (s := []) (by rfl)) sc__law_name.nd); exact (by refine ds_cons ?_ ?_; exact (ds_for PassesOwn.never rfl (di_rng1 (by rfl) T.z_range (de_bin op_plus od_plus de_int (de_bin op_mod od_mod (de_var 0 (pv 0)) de_int))) (dg_name 2 sc__law_name.nd) (by refine ds_one ?_; exact (ds_set 1 (de_bin op_plus od_plus (de_var 1 (pv 1)) (de_ix (de_str (s := [97, 98, 99, 100, 101, 102, 103, 104, 105, 106, 107, 108, 109, 110, 111, 112, 113, 114, 115, 116, 117, 118, 119, 120, 121, 122]) (by rfl)) (de_bin op_mod od_mod (de_call (ok__law_mixed T) (hr.mono (by decide)) (by rfl) T.m__law_mixed T.F__law_mixed.kp T.b__law_mixed (da_cons (de_var 0 (pv 0)) (da_cons (de_bin op_plus od_plus de_int (de_var 2 (pv 2))) da_nil (hs := stBin)) (hs := stName))) de_int))) sc__law_name.nd))); exact (by refine ds_cons ?_ ?_; exact (ds_if (dt_cmp op_in_seq (od_in false) (de_var 1 (pv 1)) (de_call0 (ok__law_kept T) (hr.mono (by decide)) (by rfl) T.m__law_kept T.F__law_kept.kp T.b__law_kept) rfl) (by refine ds_one ?_; exact (by refine ds_ret ?_; exact (de_bin op_plus od_plus (de_str (s := [113]) (by rfl)) (de_sl (de_var 1 (pv 1)) (do_some de_int) do_none)))) ds_nil); exact (by refine ds_one ?_; exact (by refine ds_ret ?_; exact (de_var 1 (pv 1)))))))
theorem sc__law_names : FnScope ["_law_cell_here", "_law_near", "_law_words"] ["_law_cell_here"] (defScope (top 25)) := ⟨rfl, rfl, rfl, by decide +kernel, rfl, by decide +kernel, by decide +kernel⟩
theorem ok__law_names (T : Txt K mg w.params) : FnOk P w K mg base CX0 3 T.a__law_names T.d__law_names ["_law_cell_here"] (spD K 1 F__law_names) := by
  refine fn_d T.F__law_names sc__law_names 1 3 rfl rfl (g := g__law_names) (fun cdv A outer s H E hr => ?_)
  unfold g__law_names
  exact (by refine ds_cons ?_ ?_; exact (ds_set 1 (de_sl (de_call (ok__law_name T) (hr.mono (by decide)) (by rfl) T.m__law_name T.F__law_name.kp T.b__law_name (da_cons (de_call (ok__law_mixed T) (hr.mono (by decide)) (by rfl) T.m__law_mixed T.F__law_mixed.kp T.b__law_mixed (da_cons (de_var 0 (pv 0)) (da_cons de_int da_nil (hs := stConst)) (hs := stName))) da_nil (hs := stCall))) do_none (do_some de_int)) sc__law_names.nd); exact (by refine ds_cons ?_ ?_; exact (ds_set 2 (by refine de_f ?_; exact (by refine df_lst ?_; exact (by refine da_cons (de_var 1 (pv 1)) ?_ (hs := stName); refine da_cons (de_bin op_plus od_plus (de_var 1 (pv 1)) (de_str (s := [113]) (by rfl))) ?_ (hs := stBin); refine da_cons (de_bin op_plus od_plus (de_sl (de_var 1 (pv 1)) do_none (do_some (de_neg de_int))) (de_str (s := [122]) (by rfl))) ?_ (hs := stBin); refine da_cons (de_bin op_plus od_plus (de_str (s := [122]) (by rfl)) (de_sl (de_var 1 (pv 1)) (do_some de_int) do_none)) ?_ (hs := stBin); exact da_nil))) sc__law_names.nd); exact (by refine ds_one ?_; exact (by refine ds_ret ?_; exact (de_bin op_plus od_plus (de_var 2 (pv 2)) (by refine de_f ?_; exact (by refine df_lst ?_; exact (da_cons (de_call (ok__law_name T) (hr.mono (by decide)) (by rfl) T.m__law_name T.F__law_name.kp T.b__law_name (da_cons (de_call (ok__law_mixed T) (hr.mono (by decide)) (by rfl) T.m__law_mixed T.F__law_mixed.kp T.b__law_mixed (da_cons (de_var 0 (pv 0)) (da_cons de_int da_nil (hs := stConst)) (hs := stName))) da_nil (hs := stCall))) (da_cons (de_call (ok__law_name T) (hr.mono (by decide)) (by rfl) T.m__law_name T.F__law_name.kp T.b__law_name (da_cons (de_call (ok__law_mixed T) (hr.mono (by decide)) (by rfl) T.m__law_mixed T.F__law_mixed.kp T.b__law_mixed (da_cons (de_var 0 (pv 0)) (da_cons de_int da_nil (hs := stConst)) (hs := stName))) da_nil (hs := stCall))) da_nil (hs := stCall)) (hs := stCall)))))))))
theorem sc__law_leaf : FnScope ["_law_cell_here", "_law_number", "_law_names_here", "_law_name_here", "_law_found"] ["_law_cell_here", "_law_number", "_law_names_here"] (defScope (top 26)) := ⟨rfl, rfl, rfl, by decide +kernel, rfl, by decide +kernel, by decide +kernel⟩
theorem ok__law_leaf (T : Txt K mg w.params) : FnOk P w K mg base CX0 1 T.a__law_leaf T.d__law_leaf ["_law_cell_here", "_law_number", "_law_names_here"] (spD K 3 F__law_leaf) := by
  refine fn_d T.F__law_leaf sc__law_leaf 3 5 rfl rfl (g := g__law_leaf) (fun cdv A outer s H E hr => ?_)
  unfold g__law_leaf
  exact (by refine ds_cons ?_ ?_; exact (ds_if (dt_cmp (op_eqA hr.units0) od_eqA (de_bin op_mod od_mod (de_var 1 (pv 1)) de_int) de_int (nomark _)) (by refine ds_one ?_; exact (by refine ds_ret ?_; exact (by refine de_tup ?_; exact (by refine da_cons (by refine de_tup ?_; exact (da_cons (de_str (s := [101, 109, 112, 116, 121]) (by rfl)) da_nil (hs := stConst))) ?_ (hs := stTuple); refine da_cons (by refine de_f ?_; exact (by refine df_lst ?_; exact (da_cons (de_str (s := [101, 109, 112, 116, 121]) (by rfl)) da_nil (hs := stConst)))) ?_ (hs := stList); refine da_cons de_int ?_ (hs := stConst); exact da_nil)))) ds_nil); exact (by refine ds_cons ?_ ?_; exact (ds_if (dt_cmp op_lt od_lt (de_bin op_mod od_mod (de_var 1 (pv 1)) de_int) de_int (nomark _)) (by refine ds_cons ?_ ?_; exact (ds_set 3 (de_ix (de_var 2 (pv 2)) (de_bin op_mod od_mod (de_bin op_fdiv od_fdiv (de_var 1 (pv 1)) de_int) de_int)) sc__law_leaf.nd); exact (by refine ds_one ?_; exact (by refine ds_ret ?_; exact (by refine de_tup ?_; exact (by refine da_cons (by refine de_tup ?_; exact (da_cons (de_str (s := [110, 97, 109, 101]) (by rfl)) (da_cons (de_var 3 (pv 3)) da_nil (hs := stName)) (hs := stConst))) ?_ (hs := stTuple); refine da_cons (by refine de_f ?_; exact (by refine df_lst ?_; exact (da_cons (de_var 3 (pv 3)) da_nil (hs := stName)))) ?_ (hs := stList); refine da_cons de_int ?_ (hs := stConst); exact da_nil))))) ds_nil); exact (by refine ds_cons ?_ ?_; exact (ds_set 4 (de_bin op_mod od_mod (de_bin op_plus od_plus (de_var 0 (pv 0)) (de_var 1 (pv 1))) (de_bin op_pow od_pow de_int de_int)) sc__law_leaf.nd); exact (by refine ds_cons ?_ ?_; exact (ds_if (dt_cmp (op_eqA hr.units0) od_eqA (de_bin op_mod od_mod (de_bin op_fdiv od_fdiv (de_var 1 (pv 1)) de_int) de_int) de_int (nomark _)) (by refine ds_one ?_; exact (ds_set 4 (de_bin op_mod od_mod (de_bin op_fdiv od_fdiv (de_var 1 (pv 1)) de_int) de_int) sc__law_leaf.nd)) ds_nil); exact (by refine ds_one ?_; exact (by refine ds_ret ?_; exact (by refine de_tup ?_; exact (by refine da_cons (by refine de_tup ?_; exact (da_cons (de_str (s := [110, 117, 109]) (by rfl)) (da_cons (de_var 4 (pv 4)) da_nil (hs := stName)) (hs := stConst))) ?_ (hs := stTuple); refine da_cons (by refine de_f ?_; exact (by refine df_lst ?_; exact (da_cons (de_strOf (by rfl) T.z_str (de_var 4 (pv 4))) da_nil (hs := stCall)))) ?_ (hs := stList); refine da_cons de_int ?_ (hs := stConst); exact da_nil))))))))
theorem sc__law_one : FnScope ["_law_number", "_law_names_here", "_law_one_here", "_law_word", "_law_name_here"] ["_law_number", "_law_names_here", "_law_one_here"] (defScope (top 27)) := ⟨rfl, rfl, rfl, by decide +kernel, rfl, by decide +kernel, by decide +kernel⟩
theorem ok__law_one (T : Txt K mg w.params) : FnOk P w K mg base CX0 1 T.a__law_one T.d__law_one ["_law_number", "_law_names_here", "_law_one_here"] (spD K 3 F__law_one) := by
  refine fn_d T.F__law_one sc__law_one 3 5 rfl rfl (g := g__law_one) (fun cdv A outer s H E hr => ?_)
  unfold g__law_one
  exact (by refine ds_cons ?_ ?_; exact (ds_set 3 (de_ix (by refine de_f ?_; exact (by refine df_lst ?_; exact (by refine da_strs (ss := [[102, 110], [103, 101, 116], [108, 101, 115, 115], [116, 97, 103], [119, 105, 100, 101], [110, 101, 118, 101, 114]]) ?_; rfl))) (de_bin op_mod od_mod (de_var 0 (pv 0)) de_int)) sc__law_one.nd); exact (by refine ds_cons ?_ ?_; exact (ds_set 4 (de_ix (de_var 1 (pv 1)) (de_bin op_mod od_mod (de_bin op_fdiv od_fdiv (de_var 0 (pv 0)) de_int) de_int)) sc__law_one.nd); exact (by refine ds_cons ?_ ?_; exact (ds_if (dt_cmp (op_eqA hr.units0) od_eqA (de_var 3 (pv 3)) (de_str (s := [110, 101, 118, 101, 114]) (by rfl)) (nomark _)) (by refine ds_one ?_; exact (by refine ds_ret ?_; exact (by refine de_tup ?_; exact (by refine da_cons (by refine de_tup ?_; exact (da_cons (de_str (s := [110, 101, 118, 101, 114]) (by rfl)) (da_cons (de_ix (de_var 2 (pv 2)) de_int) da_nil (hs := stSub)) (hs := stConst))) ?_ (hs := stTuple); refine da_cons (de_bin op_plus od_plus (by refine de_f ?_; exact (by refine df_lst ?_; exact (da_cons (de_str (s := [110, 101, 118, 101, 114]) (by rfl)) da_nil (hs := stConst)))) (de_ix (de_var 2 (pv 2)) de_int)) ?_ (hs := stBin); refine da_cons (de_bin op_plus od_plus (de_ix (de_var 2 (pv 2)) de_int) de_int) ?_ (hs := stBin); exact da_nil)))) ds_nil); exact (by refine ds_one ?_; exact (by refine ds_ret ?_; exact (by refine de_tup ?_; exact (by refine da_cons (by refine de_tup ?_; exact (by refine da_cons (de_var 3 (pv 3)) ?_ (hs := stName); refine da_cons (de_var 4 (pv 4)) ?_ (hs := stName); refine da_cons (de_ix (de_var 2 (pv 2)) de_int) ?_ (hs := stSub); exact da_nil)) ?_ (hs := stTuple); refine da_cons (de_bin op_plus od_plus (by refine de_f ?_; exact (by refine df_lst ?_; exact (da_cons (de_var 3 (pv 3)) (da_cons (de_var 4 (pv 4)) da_nil (hs := stName)) (hs := stName)))) (de_ix (de_var 2 (pv 2)) de_int)) ?_ (hs := stBin); refine da_cons (de_bin op_plus od_plus (de_ix (de_var 2 (pv 2)) de_int) de_int) ?_ (hs := stBin); exact da_nil)))))))
theorem sc__law_two : FnScope ["_law_number", "_law_names_here", "_law_one_here", "_law_other", "_law_word", "_law_name_here", "_law_deep"] ["_law_number", "_law_names_here", "_law_one_here", "_law_other"] (defScope (top 28)) := ⟨rfl, rfl, rfl, by decide +kernel, rfl, by decide +kernel, by decide +kernel⟩
theorem ok__law_two (T : Txt K mg w.params) : FnOk P w K mg base CX0 1 T.a__law_two T.d__law_two ["_law_number", "_law_names_here", "_law_one_here", "_law_other"] (spD K 4 F__law_two) := by
  refine fn_d T.F__law_two sc__law_two 4 7 rfl rfl (g := g__law_two) (fun cdv A outer s H E hr => ?_)
  unfold g__law_two
  exact (by refine ds_cons ?_ ?_; exact (ds_set 4 (de_ix (by refine de_f ?_; exact (by refine df_lst ?_; exact (by refine da_strs (ss := [[100, 111], [43], [45], [42], [60], [119, 105, 116, 104], [112, 117, 116]]) ?_; rfl))) (de_bin op_mod od_mod (de_var 0 (pv 0)) de_int)) sc__law_two.nd); exact (by refine ds_cons ?_ ?_; exact (ds_set 5 (de_ix (de_var 1 (pv 1)) (de_bin op_mod od_mod (de_bin op_fdiv od_fdiv (de_var 0 (pv 0)) de_int) de_int)) sc__law_two.nd); exact (by refine ds_cons ?_ ?_; exact (ds_set 6 (de_bin op_plus od_plus de_int (de_max (by rfl) (by rfl) T.z_max (da_cons (de_ix (de_var 2 (pv 2)) de_int) (da_cons (de_ix (de_var 3 (pv 3)) de_int) da_nil (hs := stSub)) (hs := stSub)))) sc__law_two.nd); exact (by refine ds_cons ?_ ?_; exact (ds_if (dt_cmp op_lt od_lt (de_bin op_mod od_mod (de_var 0 (pv 0)) de_int) de_int (nomark _)) (by refine ds_one ?_; exact (by refine ds_ret ?_; exact (by refine de_tup ?_; exact (by refine da_cons (by refine de_tup ?_; exact (by refine da_cons (de_var 4 (pv 4)) ?_ (hs := stName); refine da_cons (de_ix (de_var 2 (pv 2)) de_int) ?_ (hs := stSub); refine da_cons (de_ix (de_var 3 (pv 3)) de_int) ?_ (hs := stSub); exact da_nil)) ?_ (hs := stTuple); refine da_cons (de_bin op_plus od_plus (de_bin op_plus od_plus (by refine de_f ?_; exact (by refine df_lst ?_; exact (da_cons (de_var 4 (pv 4)) da_nil (hs := stName)))) (de_ix (de_var 2 (pv 2)) de_int)) (de_ix (de_var 3 (pv 3)) de_int)) ?_ (hs := stBin); refine da_cons (de_var 6 (pv 6)) ?_ (hs := stName); exact da_nil)))) ds_nil); exact (by refine ds_one ?_; exact (by refine ds_ret ?_; exact (by refine de_tup ?_; exact (by refine da_cons (by refine de_tup ?_; exact (by refine da_cons (de_var 4 (pv 4)) ?_ (hs := stName); refine da_cons (de_var 5 (pv 5)) ?_ (hs := stName); refine da_cons (de_ix (de_var 2 (pv 2)) de_int) ?_ (hs := stSub); refine da_cons (de_ix (de_var 3 (pv 3)) de_int) ?_ (hs := stSub); exact da_nil)) ?_ (hs := stTuple); refine da_cons (de_bin op_plus od_plus (de_bin op_plus od_plus (by refine de_f ?_; exact (by refine df_lst ?_; exact (da_cons (de_var 4 (pv 4)) (da_cons (de_var 5 (pv 5)) da_nil (hs := stName)) (hs := stName)))) (de_ix (de_var 2 (pv 2)) de_int)) (de_ix (de_var 3 (pv 3)) de_int)) ?_ (hs := stBin); refine da_cons (de_var 6 (pv 6)) ?_ (hs := stName); exact da_nil))))))))
theorem sc__law_three : FnScope ["_law_number", "_law_names_here", "_law_parts_here", "_law_one_here", "_law_other", "_law_third", "_law_deep", "_law_label", "_law_x", "_law_y", "_law_told"] ["_law_number", "_law_names_here", "_law_parts_here"] (defScope (top 29)) := ⟨rfl, rfl, rfl, by decide +kernel, rfl, by decide +kernel, by decide +kernel⟩
theorem ok__law_three (T : Txt K mg w.params) : FnOk P w K mg base CX0 1 T.a__law_three T.d__law_three ["_law_number", "_law_names_here", "_law_parts_here"] (spD K 3 F__law_three) := by
  refine fn_d T.F__law_three sc__law_three 3 11 rfl rfl (g := g__law_three) (fun cdv A outer s H E hr => ?_)
  unfold g__law_three
  exact (by refine ds_cons ?_ ?_; exact (ds_asg (de_var 2 (pv 2)) (dg_seq rfl (dgs_cons (dg_name 3 sc__law_three.nd) (dgs_cons (dg_name 4 sc__law_three.nd) (dgs_cons (dg_name 5 sc__law_three.nd) dgs_nil))))); exact (by refine ds_cons ?_ ?_; exact (ds_set 6 (de_bin op_plus od_plus de_int (de_max (by rfl) (by rfl) T.z_max (by refine da_cons (de_ix (de_var 3 (pv 3)) de_int) ?_ (hs := stSub); refine da_cons (de_ix (de_var 4 (pv 4)) de_int) ?_ (hs := stSub); refine da_cons (de_ix (de_var 5 (pv 5)) de_int) ?_ (hs := stSub); exact da_nil))) sc__law_three.nd); exact (by refine ds_cons ?_ ?_; exact (ds_set 7 (de_ix (de_var 1 (pv 1)) (de_bin op_mod od_mod (de_bin op_fdiv od_fdiv (de_var 0 (pv 0)) de_int) de_int)) sc__law_three.nd); exact (by refine ds_cons ?_ ?_; exact (ds_set 8 (de_ix (de_var 1 (pv 1)) (de_bin op_mod od_mod (de_bin op_fdiv od_fdiv (de_var 0 (pv 0)) de_int) de_int)) sc__law_three.nd); exact (by refine ds_cons ?_ ?_; exact (ds_set 9 (de_ix (de_var 1 (pv 1)) (de_bin op_mod od_mod (de_bin op_fdiv od_fdiv (de_var 0 (pv 0)) de_int) de_int)) sc__law_three.nd); exact (by refine ds_cons ?_ ?_; exact (ds_if (dt_cmp (op_eqA hr.units0) od_eqA (de_bin op_mod od_mod (de_var 0 (pv 0)) de_int) de_int (nomark _)) (by refine ds_one ?_; exact (by refine ds_ret ?_; exact (by refine de_tup ?_; exact (by refine da_cons (by refine de_tup ?_; exact (by refine da_cons (de_str (s := [105, 102]) (by rfl)) ?_ (hs := stConst); refine da_cons (de_ix (de_var 3 (pv 3)) de_int) ?_ (hs := stSub); refine da_cons (de_ix (de_var 4 (pv 4)) de_int) ?_ (hs := stSub); refine da_cons (de_ix (de_var 5 (pv 5)) de_int) ?_ (hs := stSub); exact da_nil)) ?_ (hs := stTuple); refine da_cons (de_bin op_plus od_plus (de_bin op_plus od_plus (de_bin op_plus od_plus (by refine de_f ?_; exact (by refine df_lst ?_; exact (da_cons (de_str (s := [105, 102]) (by rfl)) da_nil (hs := stConst)))) (de_ix (de_var 3 (pv 3)) de_int)) (de_ix (de_var 4 (pv 4)) de_int)) (de_ix (de_var 5 (pv 5)) de_int)) ?_ (hs := stBin); refine da_cons (de_var 6 (pv 6)) ?_ (hs := stName); exact da_nil)))) ds_nil); exact (by refine ds_cons ?_ ?_; exact (ds_set 10 (by refine de_tup ?_; exact (by refine da_cons (de_str (s := [99, 97, 115, 101]) (by rfl)) ?_ (hs := stConst); refine da_cons (de_ix (de_var 3 (pv 3)) de_int) ?_ (hs := stSub); refine da_cons (de_var 7 (pv 7)) ?_ (hs := stName); refine da_cons (de_var 8 (pv 8)) ?_ (hs := stName); refine da_cons (de_ix (de_var 4 (pv 4)) de_int) ?_ (hs := stSub); refine da_cons (de_var 9 (pv 9)) ?_ (hs := stName); refine da_cons (de_ix (de_var 5 (pv 5)) de_int) ?_ (hs := stSub); exact da_nil)) sc__law_three.nd); exact (by refine ds_one ?_; exact (by refine ds_ret ?_; exact (by refine de_tup ?_; exact (by refine da_cons (de_var 10 (pv 10)) ?_ (hs := stName); refine da_cons (de_bin op_plus od_plus (de_bin op_plus od_plus (de_bin op_plus od_plus (de_bin op_plus od_plus (de_bin op_plus od_plus (by refine de_f ?_; exact (by refine df_lst ?_; exact (da_cons (de_str (s := [99, 97, 115, 101]) (by rfl)) da_nil (hs := stConst)))) (de_ix (de_var 3 (pv 3)) de_int)) (by refine de_f ?_; exact (by refine df_lst ?_; exact (da_cons (de_var 7 (pv 7)) (da_cons (de_var 8 (pv 8)) da_nil (hs := stName)) (hs := stName))))) (de_ix (de_var 4 (pv 4)) de_int)) (by refine de_f ?_; exact (by refine df_lst ?_; exact (da_cons (de_var 9 (pv 9)) da_nil (hs := stName))))) (de_ix (de_var 5 (pv 5)) de_int)) ?_ (hs := stBin); refine da_cons (de_var 6 (pv 6)) ?_ (hs := stName); exact da_nil)))))))))))
theorem sc__law_grown : FnScope ["_law_pile", "_law_cell_here", "_law_k", "_law_names_here", "_law_number", "_law_kind"] ["_law_pile", "_law_cell_here", "_law_k", "_law_names_here"] (defScope (top 30)) := ⟨rfl, rfl, rfl, by decide +kernel, rfl, by decide +kernel, by decide +kernel⟩
theorem ok__law_grown (T : Txt K mg w.params) : FnOk P w K mg base CX0 2 T.a__law_grown T.d__law_grown ["_law_pile", "_law_cell_here", "_law_k", "_law_names_here"] (spD K 4 F__law_grown) := by
  refine fn_d T.F__law_grown sc__law_grown 4 6 rfl rfl (g := g__law_grown) (fun cdv A outer s H E hr => ?_)
  unfold g__law_grown
  exact (by refine ds_cons ?_ ?_; exact (ds_set 4 (de_call (ok__law_mixed T) (hr.mono (by decide)) (by rfl) T.m__law_mixed T.F__law_mixed.kp T.b__law_mixed (da_cons (de_var 1 (pv 1)) (da_cons (de_bin op_plus od_plus de_int (de_var 2 (pv 2))) da_nil (hs := stBin)) (hs := stName))) sc__law_grown.nd); exact (by refine ds_cons ?_ ?_; exact (ds_set 5 (de_bin op_mod od_mod (de_call (ok__law_mixed T) (hr.mono (by decide)) (by rfl) T.m__law_mixed T.F__law_mixed.kp T.b__law_mixed (da_cons (de_var 1 (pv 1)) (da_cons (de_bin op_plus od_plus de_int (de_var 2 (pv 2))) da_nil (hs := stBin)) (hs := stName))) de_int) sc__law_grown.nd); exact (by refine ds_cons ?_ ?_; exact (ds_if (dt_w (dw_and (dt_cmp op_gt od_gt (de_var 5 (pv 5)) de_int (nomark _)) (dw_and (dt_cmp op_gt od_gt (de_len (by rfl) T.z_len (de_var 0 (pv 0))) de_int (nomark _)) (dw_and1 (dt_cmp op_lt od_lt (de_maxL (by rfl) (by rfl) T.z_max (db_f (df_comp (N' := ["_law_item"]) (cap := []) rfl cmp_mk (di_seq (de_sl (de_var 0 (pv 0)) (do_some (de_neg de_int)) do_none)) (fun _ _ _ _ => (dg_name 0 (show (["_law_item"] : List Str).Nodup by decide +kernel))) (fun _ _ _ _ => (de_ix (de_var 0 (pv 0)) de_int)) 1))) de_int (nomark _)))))) (by refine ds_one ?_; exact (by refine ds_ret ?_; exact (de_bin op_plus od_plus (de_sl (de_var 0 (pv 0)) do_none (do_some (de_neg de_int))) (by refine de_f ?_; exact (by refine df_lst ?_; exact (da_cons (de_call (ok__law_three T) (hr.mono (by decide)) (by rfl) T.m__law_three T.F__law_three.kp T.b__law_three (by refine da_cons (de_var 4 (pv 4)) ?_ (hs := stName); refine da_cons (de_var 3 (pv 3)) ?_ (hs := stName); refine da_cons (de_sl (de_var 0 (pv 0)) (do_some (de_neg de_int)) do_none) ?_ (hs := stSub); exact da_nil)) da_nil (hs := stCall))))))) ds_nil); exact (by refine ds_cons ?_ ?_; exact (ds_if (dt_w (dw_and (dt_cmp op_gt od_gt (de_var 5 (pv 5)) de_int (nomark _)) (dw_and (dt_cmp op_gt od_gt (de_len (by rfl) T.z_len (de_var 0 (pv 0))) de_int (nomark _)) (dw_and1 (dt_cmp op_lt od_lt (de_maxL (by rfl) (by rfl) T.z_max (db_f (df_comp (N' := ["_law_item"]) (cap := []) rfl cmp_mk (di_seq (de_sl (de_var 0 (pv 0)) (do_some (de_neg de_int)) do_none)) (fun _ _ _ _ => (dg_name 0 (show (["_law_item"] : List Str).Nodup by decide +kernel))) (fun _ _ _ _ => (de_ix (de_var 0 (pv 0)) de_int)) 1))) de_int (nomark _)))))) (by refine ds_one ?_; exact (by refine ds_ret ?_; exact (de_bin op_plus od_plus (de_sl (de_var 0 (pv 0)) do_none (do_some (de_neg de_int))) (by refine de_f ?_; exact (by refine df_lst ?_; exact (da_cons (de_call (ok__law_two T) (hr.mono (by decide)) (by rfl) T.m__law_two T.F__law_two.kp T.b__law_two (by refine da_cons (de_var 4 (pv 4)) ?_ (hs := stName); refine da_cons (de_var 3 (pv 3)) ?_ (hs := stName); refine da_cons (de_ix (de_var 0 (pv 0)) (de_neg de_int)) ?_ (hs := stSub); refine da_cons (de_ix (de_var 0 (pv 0)) (de_neg de_int)) ?_ (hs := stSub); exact da_nil)) da_nil (hs := stCall))))))) ds_nil); exact (by refine ds_cons ?_ ?_; exact (ds_if (dt_w (dw_and (dt_cmp op_gt od_gt (de_var 5 (pv 5)) de_int (nomark _)) (dw_and (dt_cmp op_gt od_gt (de_len (by rfl) T.z_len (de_var 0 (pv 0))) de_int (nomark _)) (dw_and1 (dt_cmp op_lt od_lt (de_ix (de_ix (de_var 0 (pv 0)) (de_neg de_int)) de_int) de_int (nomark _)))))) (by refine ds_one ?_; exact (by refine ds_ret ?_; exact (de_bin op_plus od_plus (de_sl (de_var 0 (pv 0)) do_none (do_some (de_neg de_int))) (by refine de_f ?_; exact (by refine df_lst ?_; exact (da_cons (de_call (ok__law_one T) (hr.mono (by decide)) (by rfl) T.m__law_one T.F__law_one.kp T.b__law_one (by refine da_cons (de_var 4 (pv 4)) ?_ (hs := stName); refine da_cons (de_var 3 (pv 3)) ?_ (hs := stName); refine da_cons (de_ix (de_var 0 (pv 0)) (de_neg de_int)) ?_ (hs := stSub); exact da_nil)) da_nil (hs := stCall))))))) ds_nil); exact (by refine ds_one ?_; exact (by refine ds_ret ?_; exact (de_bin op_plus od_plus (de_var 0 (pv 0)) (by refine de_f ?_; exact (by refine df_lst ?_; exact (da_cons (de_call (ok__law_leaf T) (hr.mono (by decide)) (by rfl) T.m__law_leaf T.F__law_leaf.kp T.b__law_leaf (by refine da_cons (de_var 1 (pv 1)) ?_ (hs := stName); refine da_cons (de_var 4 (pv 4)) ?_ (hs := stName); refine da_cons (de_var 3 (pv 3)) ?_ (hs := stName); exact da_nil)) da_nil (hs := stCall))))))))))))
theorem sc__law_alike : FnScope ["_law_found", "_law_due", "_law_one_here", "_law_other"] ["_law_found", "_law_due"] (defScope (top 31)) := ⟨rfl, rfl, rfl, by decide +kernel, rfl, by decide +kernel, by decide +kernel⟩
theorem ok__law_alike : ∀ (k : Nat) (T : Txt K mg w.params), FnOk P w K mg base CX0 (k + 0) T.a__law_alike T.d__law_alike ["_law_found", "_law_due"] (spD K 2 (F__law_alike k))
  | 0, T => fn_0 2
  | k + 1, T => by
    have G := ok__law_alike k T
    rw [show k + 1 + 0 = (k + 0) + 1 by omega]
    refine fn_d T.F__law_alike sc__law_alike 2 4 rfl rfl (g := g__law_alike (F__law_alike k)) (fun cdv A outer s H E hr => ?_)
    unfold g__law_alike
    exact (by refine ds_cons ?_ ?_; exact (ds_if (dt_w (dw_or (dt_tru (de_isinst (by rfl) T.z_isinstance (de_var 1 (pv 1)) (pe_bltn (by rfl) T.z_tuple boot_tuple rfl))) (dw_or1 (dt_tru (de_isinst (by rfl) T.z_isinstance (de_var 1 (pv 1)) (pe_bltn (by rfl) T.z_list boot_list rfl)))))) (by refine ds_cons ?_ ?_; exact (ds_if (dt_w (dw_or (dt_cmp (op_neA hr.units0) od_neA (de_isinst (by rfl) T.z_isinstance (de_var 0 (pv 0)) (pe_bltn (by rfl) T.z_tuple boot_tuple rfl)) (de_isinst (by rfl) T.z_isinstance (de_var 1 (pv 1)) (pe_bltn (by rfl) T.z_tuple boot_tuple rfl)) (nomark _)) (dw_or1 (dt_cmp (op_neA hr.units0) od_neA (de_isinst (by rfl) T.z_isinstance (de_var 0 (pv 0)) (pe_bltn (by rfl) T.z_list boot_list rfl)) (de_isinst (by rfl) T.z_isinstance (de_var 1 (pv 1)) (pe_bltn (by rfl) T.z_list boot_list rfl)) (nomark _))))) (by refine ds_one ?_; exact (by refine ds_ret ?_; exact de_bl)) ds_nil); exact (by refine ds_cons ?_ ?_; exact (ds_if (dt_cmp (op_neA hr.units0) od_neA (de_len (by rfl) T.z_len (de_var 0 (pv 0))) (de_len (by rfl) T.z_len (de_var 1 (pv 1))) (nomark _)) (by refine ds_one ?_; exact (by refine ds_ret ?_; exact de_bl)) ds_nil); exact (by refine ds_cons ?_ ?_; exact (ds_for PassesOwn.never rfl (di_zip (by rfl) T.z_zip (de_var 0 (pv 0)) (de_var 1 (pv 1))) (dg_seq rfl (dgs_cons (dg_name 2 sc__law_alike.nd) (dgs_cons (dg_name 3 sc__law_alike.nd) dgs_nil))) (by refine ds_one ?_; exact (ds_if (dt_not (dt_tru (de_call G (hr.mono (by omega)) (by rfl) T.m__law_alike T.F__law_alike.kp T.b__law_alike (da_cons (de_var 2 (pv 2)) (da_cons (de_var 3 (pv 3)) da_nil (hs := stName)) (hs := stName))))) (by refine ds_one ?_; exact (by refine ds_ret ?_; exact de_bl)) ds_nil))); exact (by refine ds_one ?_; exact (by refine ds_ret ?_; exact de_bl))))) ds_nil); exact (by refine ds_cons ?_ ?_; exact (ds_if (dt_tru (de_isinst (by rfl) T.z_isinstance (de_var 1 (pv 1)) (pe_bltn (by rfl) T.z_int boot_int rfl))) (by refine ds_one ?_; exact (by refine ds_ret ?_; exact (de_and (de_isinst (by rfl) T.z_isinstance (de_var 0 (pv 0)) (pe_bltn (by rfl) T.z_int boot_int rfl)) (de_and (de_not (de_isinst (by rfl) T.z_isinstance (de_var 0 (pv 0)) (pe_bltn (by rfl) T.z_bool boot_bool rfl))) (de_one (de_cmp (op_eqA hr.units0) od_eqA (de_var 0 (pv 0)) (de_var 1 (pv 1)) (nomark _))))))) ds_nil); exact (by refine ds_one ?_; exact (by refine ds_ret ?_; exact (de_and (de_isinst (by rfl) T.z_isinstance (de_var 0 (pv 0)) (pe_bltn (by rfl) T.z_str boot_str rfl)) (de_one (de_cmp (op_eqA hr.units0) od_eqA (de_var 0 (pv 0)) (de_var 1 (pv 1)) (nomark _))))))))
theorem sc__law_deepened : FnScope ["_law_item", "_law_cell_here", "_law_names_here", "_law_k"] ["_law_item", "_law_cell_here", "_law_names_here"] (defScope (top 32)) := ⟨rfl, rfl, rfl, by decide +kernel, rfl, by decide +kernel, by decide +kernel⟩
theorem ok__law_deepened (T : Txt K mg w.params) : FnOk P w K mg base CX0 2 T.a__law_deepened T.d__law_deepened ["_law_item", "_law_cell_here", "_law_names_here"] (spD K 3 F__law_deepened) := by
  refine fn_d T.F__law_deepened sc__law_deepened 3 4 rfl rfl (g := g__law_deepened) (fun cdv A outer s H E hr => ?_)
  unfold g__law_deepened
  exact (by refine ds_cons ?_ ?_; exact (ds_for PassesOwn.never rfl (di_rng1 (by rfl) T.z_range (de_bin op_sub od_sub de_int (de_ix (de_var 0 (pv 0)) de_int))) (dg_name 3 sc__law_deepened.nd) (by refine ds_one ?_; exact (ds_set 0 (de_call (ok__law_one T) (hr.mono (by decide)) (by rfl) T.m__law_one T.F__law_one.kp T.b__law_one (by refine da_cons (de_call (ok__law_mixed T) (hr.mono (by decide)) (by rfl) T.m__law_mixed T.F__law_mixed.kp T.b__law_mixed (da_cons (de_var 1 (pv 1)) (da_cons (de_bin op_plus od_plus de_int (de_var 3 (pv 3))) da_nil (hs := stBin)) (hs := stName))) ?_ (hs := stCall); refine da_cons (de_var 2 (pv 2)) ?_ (hs := stName); refine da_cons (de_var 0 (pv 0)) ?_ (hs := stName); exact da_nil)) sc__law_deepened.nd))); exact (by refine ds_one ?_; exact (by refine ds_ret ?_; exact (de_var 0 (pv 0)))))
theorem sc_law : FnScope ["_law_script", "_law_first", "_law_names_here", "_law_pile", "_law_k", "_law_cell_here", "_law_told", "_law_words", "_law_deep", "_law_text"] ["_law_script"] (defScope (top 33)) := ⟨rfl, rfl, rfl, by decide +kernel, rfl, by decide +kernel, by decide +kernel⟩
theorem ok_law (T : Txt K mg w.params) : FnOk P w K mg base CX0 46 T.a_law T.d_law ["_law_script"] (spD K 1 F_law) := by
  refine fn_d T.F_law sc_law 1 10 rfl rfl (g := g_law) (fun cdv A outer s H E hr => ?_)
  unfold g_law
  exact (by refine ds_cons ?_ ?_; exact (ds_set 1 (de_call (ok__law_cell T) (hr.mono (by decide)) (by rfl) T.m__law_cell T.F__law_cell.kp T.b__law_cell (da_cons (de_var 0 (pv 0)) (da_cons de_int da_nil (hs := stConst)) (hs := stName))) sc_law.nd); exact (by refine ds_cons ?_ ?_; exact (ds_set 2 (de_call (ok__law_names T) (hr.mono (by decide)) (by rfl) T.m__law_names T.F__law_names.kp T.b__law_names (da_cons (de_var 1 (pv 1)) da_nil (hs := stName))) sc_law.nd); exact (by refine ds_cons ?_ ?_; exact (ds_set 3 (by refine de_f ?_; exact (by refine df_lst ?_; exact (da_cons (de_call (ok__law_leaf T) (hr.mono (by decide)) (by rfl) T.m__law_leaf T.F__law_leaf.kp T.b__law_leaf (by refine da_cons (de_var 1 (pv 1)) ?_ (hs := stName); refine da_cons (de_call (ok__law_mixed T) (hr.mono (by decide)) (by rfl) T.m__law_mixed T.F__law_mixed.kp T.b__law_mixed (da_cons (de_var 1 (pv 1)) (da_cons de_int da_nil (hs := stConst)) (hs := stName))) ?_ (hs := stCall); refine da_cons (de_var 2 (pv 2)) ?_ (hs := stName); exact da_nil)) da_nil (hs := stCall)))) sc_law.nd); exact (by refine ds_cons ?_ ?_; exact (ds_for PassesOwn.never rfl (di_enum (by rfl) T.z_enumerate (de_sl (de_var 0 (pv 0)) (do_some de_int) (do_some de_int))) (dg_seq rfl (dgs_cons (dg_name 4 sc_law.nd) (dgs_cons (dg_name 5 sc_law.nd) dgs_nil))) (by refine ds_one ?_; exact (ds_set 3 (de_call (ok__law_grown T) (hr.mono (by decide)) (by rfl) T.m__law_grown T.F__law_grown.kp T.b__law_grown (by refine da_cons (de_var 3 (pv 3)) ?_ (hs := stName); refine da_cons (de_var 5 (pv 5)) ?_ (hs := stName); refine da_cons (de_var 4 (pv 4)) ?_ (hs := stName); refine da_cons (de_var 2 (pv 2)) ?_ (hs := stName); exact da_nil)) sc_law.nd))); exact (by refine ds_cons ?_ ?_; exact (ds_if (dt_cmp (op_eqA hr.units0) od_eqA (de_bin op_mod od_mod (de_call (ok__law_mixed T) (hr.mono (by decide)) (by rfl) T.m__law_mixed T.F__law_mixed.kp T.b__law_mixed (da_cons (de_var 1 (pv 1)) (da_cons de_int da_nil (hs := stConst)) (hs := stName))) de_int) de_int (nomark _)) (by refine ds_one ?_; exact (ds_set 3 (de_bin op_plus od_plus (de_sl (de_var 3 (pv 3)) do_none (do_some (de_neg de_int))) (by refine de_f ?_; exact (by refine df_lst ?_; exact (da_cons (de_call (ok__law_deepened T) (hr.mono (by decide)) (by rfl) T.m__law_deepened T.F__law_deepened.kp T.b__law_deepened (by refine da_cons (de_ix (de_var 3 (pv 3)) (de_neg de_int)) ?_ (hs := stSub); refine da_cons (de_var 1 (pv 1)) ?_ (hs := stName); refine da_cons (de_var 2 (pv 2)) ?_ (hs := stName); exact da_nil)) da_nil (hs := stCall))))) sc_law.nd)) ds_nil); exact (by refine ds_cons ?_ ?_; exact (ds_for PassesOwn.never rfl (di_seq (de_var 3 (pv 3))) (dg_seq rfl (dgs_cons (dg_name 6 sc_law.nd) (dgs_cons (dg_name 7 sc_law.nd) (dgs_cons (dg_name 8 sc_law.nd) dgs_nil)))) (by refine ds_cons ?_ ?_; exact (ds_set 9 (de_join (de_str (s := [32]) (by rfl)) (db_e (de_var 7 (pv 7)))) sc_law.nd); exact (by refine ds_one ?_; exact (ds_if (dt_w (dw_or (dt_not (dt_tru (de_call (ok__law_alike RF T) (hr.mono (by decide)) (by rfl) T.m__law_alike T.F__law_alike.kp T.b__law_alike (da_cons (de_call (ok_read_expression T) (hr.mono (by decide)) (by rfl) T.m_read_expression T.F_read_expression.kp T.b_read_expression (da_cons (de_var 9 (pv 9)) da_nil (hs := stName))) (da_cons (de_var 6 (pv 6)) da_nil (hs := stName)) (hs := stCall))))) (dw_or1 (dt_not (dt_tru (de_call (ok__law_alike RF T) (hr.mono (by decide)) (by rfl) T.m__law_alike T.F__law_alike.kp T.b__law_alike (da_cons (de_call (ok_shown_expression T) (hr.mono (by decide)) (by rfl) T.m_shown_expression T.F_shown_expression.kp T.b_shown_expression (da_cons (de_var 6 (pv 6)) da_nil (hs := stName))) (da_cons (de_var 9 (pv 9)) da_nil (hs := stName)) (hs := stCall)))))))) (by refine ds_one ?_; exact (by refine ds_ret ?_; exact de_bl)) ds_nil)))); exact (by refine ds_one ?_; exact (by refine ds_ret ?_; exact de_bl))))))))
end
end K02
namespace K02
open PySem PySem.Spec PyProof.Rows L2 DD
/-! ### texts: joined and split back -/
theorem splitC_free {c : Nat} : ∀ {s : List Nat}, c ∉ s → splitC c s = [s]
  | [], _ => rfl
  | x :: r, h => by
    have hx : x ≠ c := fun e => h (by simp [e])
    have hr := splitC_free (c := c) (s := r) fun e => h (by simp [e])
    simp only [splitC, if_neg hx, hr]
theorem splitC_cut {c : Nat} {t : List Nat} : ∀ {s : List Nat}, c ∉ s → splitC c (s ++ c :: t) = s :: splitC c t
  | [], _ => by simp only [List.nil_append, splitC, if_pos]
  | x :: r, h => by
    have hx : x ≠ c := fun e => h (by simp [e])
    have hr := splitC_cut (c := c) (t := t) (s := r) fun e => h (by simp [e])
    simp only [List.cons_append, splitC, if_neg hx, hr]
theorem splitC_join {c : Nat} : ∀ {ws : List (List Nat)}, ws ≠ [] → (∀ x ∈ ws, c ∉ x) → splitC c (joinC [c] ws) = ws
  | [], h, _ => absurd rfl h
  | [s], _, h => splitC_free (h s (by simp))
  | s :: t :: r, _, h => by
    have ih := splitC_join (c := c) (ws := t :: r) (by simp) fun x hx => h x (by simp at hx ⊢; exact .inr hx)
    show splitC c (s ++ [c] ++ joinC [c] (t :: r)) = _
    rw [List.append_assoc, List.singleton_append, splitC_cut (h s (by simp)), ih]
theorem cnt_pos (c : Nat) : ∀ l : List Nat, (0 : Int) ≤ cnt c l
  | [] => by rw [cnt_none c [] (by simp)]; omega
  | k :: r => by
    have ih := cnt_pos c r
    rw [cnt_cons]
    split <;> omega
theorem splitS_join {c : Nat} {ws : List (List Nat)} (h0 : ws ≠ []) (h : ∀ x ∈ ws, c ∉ x) : splitS (joinC [c] ws) [c] = ws := by
  have key : ∀ ys : List (List Nat), ys ≠ [] → (∀ y ∈ ys, c ∉ y) → joinC [c] ys = joinC [c] ws → ys = ws := fun ys y0 yf e => by
    rw [← splitC_join y0 yf, e, splitC_join h0 h]
  let x : Str := ⟨(joinC [c] ws).toArray⟩
  let L := Txt.split x ⟨#[c]⟩
  have hL : splitS (joinC [c] ws) [c] = L.map fun z => z.cps.toList := rfl
  rw [hL]
  refine key _ ?_ ?_ ?_
  · intro e
    have e2 : L = [] := by simpa using e
    have q : ((L.length : Nat) : Int) = 1 + cnt c x.cps.toList := split_len x c
    have z := StrLaws.join_split x ⟨#[c]⟩
    have p : (0 : Int) ≤ cnt c x.cps.toList := cnt_pos c _
    rw [e2] at q
    simp at q
    omega
  · intro y hy
    obtain ⟨z, hz, rfl⟩ := List.mem_map.mp hy
    exact StrLaws.split_free x c z hz
  · have e := join_eq [c] (L.map fun z => z.cps.toList)
    rw [List.map_map] at e
    have e1 : (L.map ((fun s => (⟨s.toArray⟩ : Str)) ∘ fun z : Str => z.cps.toList)) = L := by
      conv => rhs; rw [← List.map_id L]
      exact List.map_congr_left fun z _ => rfl
    rw [e1] at e
    have e2 : Str.join (⟨[c].toArray⟩ : Str) L = x := StrLaws.join_split x ⟨#[c]⟩
    rw [e2] at e
    have e3 := congrArg (fun s : Str => s.cps.toList) e
    simpa [x] using e3.symm
theorem joinC_len (c : Nat) : ∀ ws : List (List Nat), (joinC [c] ws).length ≤ (ws.map List.length).sum + ws.length
  | [] => by simp [joinC]
  | [s] => by simp [joinC]
  | s :: t :: r => by
    have ih := joinC_len c (t :: r)
    show (s ++ [c] ++ joinC [c] (t :: r)).length ≤ _
    simp at ih ⊢
    omega
/-! ### the text of a number -/
theorem intC_nat (n : Nat) : intC (n : Int) = (Nat.toDigits 10 n).map Char.toNat := by
  unfold intC
  have e : toString (n : Int) = n.repr := rfl
  rw [e, Str.ofString_eq_toList]
  simp [Nat.repr_eq_ofList_toDigits]
theorem intC_free (n : Nat) : 32 ∉ intC (n : Int) := by
  rw [intC_nat]
  intro h
  obtain ⟨c, hc, e⟩ := List.mem_map.mp h
  have d := Nat.isDigit_of_mem_toDigits (by decide) (by decide) hc
  simp only [Char.isDigit, Bool.and_eq_true, decide_eq_true_eq] at d
  have := d.1
  have e2 : c.val.toNat = 32 := e
  have := UInt32.le_iff_toNat_le.mp d.1
  rw [e2] at this
  revert this; decide
theorem intC_len {n : Nat} (h : n < 10 ^ 8) : (intC (n : Int)).length ≤ 8 := by
  rw [intC_nat, List.length_map]
  exact (Nat.length_toDigits_le_iff (by decide) (by decide)).mpr h
/-! ### expressions, one behind another -/
inductive Fo where
  | nil
  | nm (x : List Nat) (r : Fo)
  | nam (x : List Nat) (r : Fo)
  | num (n : Nat) (r : Fo)
  | nd (w : List Nat) (ps r : Fo)
def sNum : List Nat := [110, 117, 109]
def sNam : List Nat := [110, 97, 109, 101]
namespace Fo
def ds : Fo → List D
  | nil => []
  | nm x r => .str x :: ds r
  | nam x r => .tup [.str sNam, .str x] :: ds r
  | num n r => .tup [.str sNum, .int n] :: ds r
  | nd w ps r => .tup (.str w :: ds ps) :: ds r
def ws : Fo → List (List Nat)
  | nil => []
  | nm x r => x :: ws r
  | nam x r => x :: ws r
  | num n r => intC n :: ws r
  | nd w ps r => w :: (ws ps ++ ws r)
def lv : Fo → Nat
  | nil => 0
  | nm _ r => lv r
  | nam _ r => max 1 (lv r)
  | num _ r => max 1 (lv r)
  | nd _ ps r => max (lv ps + 1) (lv r)
/-- n for a name, E for an expression -/
def form : Fo → List Nat
  | nil => []
  | nm _ r => 110 :: form r
  | nam _ r => 69 :: form r
  | num _ r => 69 :: form r
  | nd _ _ r => 69 :: form r
def wd (x : List Nat) : Prop := 32 ∉ x ∧ x.length ≤ 8
def nmok (x : List Nat) : Prop := (∀ c ∈ x, 97 ≤ c ∧ c ≤ 122) ∧ 1 ≤ x.length ∧ x.length ≤ 8 ∧ x ∉ C_KEPT_WORDS
def ok : Fo → Prop
  | nil => True
  | nm x r => nmok x ∧ ok r
  | nam x r => nmok x ∧ ok r
  | num n r => n < 10 ^ 6 ∧ ok r
  | nd w ps r => look C_FORMS w = some ps.form ∧ ok ps ∧ ok r
def app : Fo → Fo → Fo
  | nil, g => g
  | nm x r, g => nm x (app r g)
  | nam x r, g => nam x (app r g)
  | num n r, g => num n (app r g)
  | nd w ps r, g => nd w ps (app r g)
/-- just one expression -/
def one : Fo → Prop
  | nam _ nil => True
  | num _ nil => True
  | nd _ _ nil => True
  | _ => False
theorem nmok.wd {x : List Nat} (h : nmok x) : Fo.wd x := ⟨fun q => by have := h.1 32 q; omega, h.2.2.1⟩
theorem look_mem {tbl : List (List Nat × List Nat)} {w v : List Nat} (h : look tbl w = some v) : (w, v) ∈ tbl := by
  unfold look at h
  obtain ⟨q, e, rfl⟩ := Option.map_eq_some_iff.mp h
  have m := List.mem_of_find?_eq_some e
  have p := List.find?_some e
  have : q.1 = w := by simpa using p
  rw [← this]; exact m
theorem forms_ok : ∀ q ∈ C_FORMS, Fo.wd q.1 ∧ q.1 ≠ sNum ∧ q.1 ≠ sNam := by unfold Fo.wd; decide
theorem look_head {w v : List Nat} (h : look C_FORMS w = some v) : Fo.wd w ∧ w ≠ sNum ∧ w ≠ sNam := forms_ok _ (look_mem h)
theorem ds_app : ∀ f g : Fo, (app f g).ds = f.ds ++ g.ds
  | nil, g => rfl
  | nm x r, g => by simp [app, ds, ds_app r g]
  | nam x r, g => by simp [app, ds, ds_app r g]
  | num n r, g => by simp [app, ds, ds_app r g]
  | nd w ps r, g => by simp [app, ds, ds_app r g]
theorem ws_app : ∀ f g : Fo, (app f g).ws = f.ws ++ g.ws
  | nil, g => rfl
  | nm x r, g => by simp [app, ws, ws_app r g]
  | nam x r, g => by simp [app, ws, ws_app r g]
  | num n r, g => by simp [app, ws, ws_app r g]
  | nd w ps r, g => by simp [app, ws, ws_app r g]
theorem lv_app : ∀ f g : Fo, (app f g).lv = max f.lv g.lv
  | nil, g => by simp [app, lv]
  | nm x r, g => by simp [app, lv, lv_app r g]
  | nam x r, g => by simp only [app, lv, lv_app r g]; omega
  | num n r, g => by simp only [app, lv, lv_app r g]; omega
  | nd w ps r, g => by simp only [app, lv, lv_app r g]; omega
theorem ok_app : ∀ f g : Fo, f.ok → g.ok → (app f g).ok
  | nil, g, _, h => h
  | nm x r, g, a, h => ⟨a.1, ok_app r g a.2 h⟩
  | nam x r, g, a, h => ⟨a.1, ok_app r g a.2 h⟩
  | num n r, g, a, h => ⟨a.1, ok_app r g a.2 h⟩
  | nd w ps r, g, a, h => ⟨a.1, a.2.1, ok_app r g a.2.2 h⟩
theorem form_app : ∀ f g : Fo, (app f g).form = f.form ++ g.form
  | nil, g => rfl
  | nm x r, g => by simp [app, form, form_app r g]
  | nam x r, g => by simp [app, form, form_app r g]
  | num n r, g => by simp [app, form, form_app r g]
  | nd w ps r, g => by simp [app, form, form_app r g]
theorem ws_ok : ∀ f : Fo, f.ok → ∀ x ∈ f.ws, wd x
  | nil, _, x, h => by simp [ws] at h
  | nm y r, a, x, h => by
    simp only [ws, List.mem_cons] at h
    rcases h with rfl | h
    · exact a.1.wd
    · exact ws_ok r a.2 x h
  | nam y r, a, x, h => by
    simp only [ws, List.mem_cons] at h
    rcases h with rfl | h
    · exact a.1.wd
    · exact ws_ok r a.2 x h
  | num n r, a, x, h => by
    simp only [ws, List.mem_cons] at h
    rcases h with rfl | h
    · exact ⟨intC_free n, intC_len (Nat.lt_trans a.1 (by decide))⟩
    · exact ws_ok r a.2 x h
  | nd w ps r, a, x, h => by
    simp only [ws, List.mem_cons, List.mem_append] at h
    rcases h with rfl | h | h
    · exact (look_head a.1).1
    · exact ws_ok ps a.2.1 x h
    · exact ws_ok r a.2.2 x h
theorem ws_sum : ∀ {l : List (List Nat)}, (∀ x ∈ l, wd x) → (l.map List.length).sum ≤ 8 * l.length
  | [], _ => by simp
  | x :: l, h => by
    have h1 := (h x (by simp)).2
    have h2 := ws_sum (l := l) fun y hy => h y (by simp [hy])
    simp only [List.sum_cons, List.map_cons, List.length_cons]
    omega
theorem ds_le : ∀ f : Fo, f.ds.length ≤ f.ws.length
  | nil => by simp [ds, ws]
  | nm _ r => by simp [ds, ws, ds_le r]
  | nam _ r => by simp [ds, ws, ds_le r]
  | num _ r => by simp [ds, ws, ds_le r]
  | nd _ ps r => by have := ds_le r; simp [ds, ws]; omega
end Fo
end K02
namespace K02
open PySem PySem.Spec PyProof.Rows L2 DD
/-! ### sorts -/
def isT : D → Bool
  | .tup _ => true
  | _ => false
def plain : D → Prop
  | .tup _ => True
  | .str _ => True
  | .int _ => True
  | _ => False
def fre : Sl → Prop
  | .un => True
  | .v _ => True
  | _ => False
theorem inst_tt : instN "tuple" "tuple" = some true := by decide
theorem inst_st : instN "str" "tuple" = some false := by decide
theorem inst_it : instN "int" "tuple" = some false := by decide
theorem inst_lt : instN "list" "tuple" = some false := by decide
theorem inst_ll : instN "list" "list" = some true := by decide
theorem inst_tl : instN "tuple" "list" = some false := by decide
theorem inst_sl : instN "str" "list" = some false := by decide
theorem inst_il : instN "int" "list" = some false := by decide
theorem inst_ii : instN "int" "int" = some true := by decide
theorem inst_si : instN "str" "int" = some false := by decide
theorem inst_ib : instN "int" "bool" = some false := by decide
theorem inst_ss : instN "str" "str" = some true := by decide
theorem instT {d : D} (h : plain d) : instD "tuple" d = some (.bl (isT d)) := by
  cases d <;> first | (cases h; done) | skip
  · simp [instD, tyN, inst_it, isT]
  · simp [instD, tyN, inst_st, isT]
  · simp [instD, tyN, inst_tt, isT]
theorem setV_fre {i : Nat} {d : D} {r : En} {x : Sl} (e : r[i]? = some x) (h : fre x) : setV i d r = some (r.set i (.v d)) := by
  unfold setV
  rw [e]
  cases x <;> first | rfl | cases h
theorem pop_of {i : Nat} {r : En} {S : List D} {d : D} (e : r[i]? = some (.o (S ++ [d]))) : mPop i r = some (d, r.set i (.o S)) := by
  simp [mPop, mtOf, e, Sl.mt, putO]
theorem app_of {i : Nat} {f : ME} {r : En} {S : List D} {d : D} (e : r[i]? = some (.o S)) (e2 : f r = some d) (h : S.length < sizeLine) : mApp i f r = some (.non, r.set i (.o (S ++ [d]))) := by
  simp [mApp, mtOf, e, Sl.mt, putO, e2, h]
theorem appP_of {i : Nat} {f : ME} {r : En} {S : List D} {d : D} (e : r[i]? = some (.p S)) (e2 : f r = some d) (h : S.length < sizeLine) : mApp i f r = some (.non, r.set i (.p (S ++ [d]))) := by
  simp [mApp, mtOf, e, Sl.mt, putO, e2, h]
theorem ext_of {i : Nat} {f : ME} {r : En} {S m : List D} {d : D} (e : r[i]? = some (.o S)) (e2 : f r = some d) (e3 : itemsD d = some m) (h : S.length + m.length ≤ sizeLine) : mExt i f r = some (.non, r.set i (.o (S ++ m))) := by
  simp [mExt, mtOf, e, Sl.mt, putO, e2, e3, h]
theorem var_of {i : Nat} {r : En} {d : D} (e : r[i]? = some (.v d)) : mVar i r = some d := by
  unfold mVar; rw [e]
theorem seq_of {g h : MS} {r r' : En} (e : g r = some (.nx r')) : sSeq g h r = h r' := by
  unfold sSeq; rw [e]; rfl
theorem seq_rt {g h : MS} {r r' : En} {d : D} (e : g r = some (.rt d r')) : sSeq g h r = some (.rt d r') := by
  unfold sSeq; rw [e]; rfl
theorem sX_of {f : En → Option (D × En)} {r r' : En} {d : D} (e : f r = some (d, r')) : sX f r = some (.nx r') := by
  unfold sX; rw [e]; rfl
theorem sSetX_of {i : Nat} {f : En → Option (D × En)} {r r' r2 : En} {d : D} (e : f r = some (d, r')) (e2 : setV i d r' = some r2) : sSetX i f r = some (.nx r2) := by
  unfold sSetX; rw [e]; show (setV i d r').map Fl.nx = _; rw [e2]; rfl
theorem sSet_of {i : Nat} {f : ME} {r r2 : En} {d : D} (e : f r = some d) (e2 : setV i d r = some r2) : sSet i f r = some (.nx r2) := by
  unfold sSet; rw [e]; show (setV i d r).map Fl.nx = _; rw [e2]; rfl
theorem sIf_t {c : MB} {g h : MS} {r : En} (e : c r = some true) : sIf c g h r = g r := by
  unfold sIf; rw [e]; rfl
theorem sIf_f {c : MB} {g h : MS} {r : En} (e : c r = some false) : sIf c g h r = h r := by
  unfold sIf; rw [e]; rfl
theorem while_go {n : Nat} {c : MB} {g : MS} {r r' : En} (h : c r = some true) (e : g r = some (.nx r')) : sWhile (n + 1) c g r = sWhile n c g r' := by
  show (c r).bind _ = _
  rw [h, Option.bind_some, if_pos rfl, e, Option.bind_some]
theorem while_end {n : Nat} {c : MB} {g : MS} {r : En} (h : c r = some false) : sWhile (n + 1) c g r = some (.nx r) := by
  show (c r).bind _ = _
  rw [h, Option.bind_some, if_neg (by simp)]
theorem cnd {E : D} {F S : List D} {d : D} {x : Sl} : mTruB (mOwn 2) [.v E, .o F, .o (S ++ [d]), x] = some true := by
  show some (!(S ++ [d]).isEmpty) = _
  simp
/-! ### written_parts, shown_expression -/
theorem at_zero {α : Type} (x : α) (l : List α) : atI (x :: l) 0 = some x := atI_nat (j := 0) rfl
theorem wp_leaf {w : List Nat} {y : D} (h : w = sNum ∨ w = sNam) : ∃ as, F_written_parts [.v (.tup [.str w, y])] = some (.v (.tup [y]), as) := by
  rcases h with rfl | rfl <;> exact ⟨_, rfl⟩
theorem wp_nd {w : List Nat} {l : List D} (h1 : w ≠ sNum) (h2 : w ≠ sNam) : ∃ as, F_written_parts [.v (.tup (.str w :: l))] = some (.v (.tup (.str w :: l)), as) := by
  have e : mBl (mBin (inD false) (mBin ixD (mVar 0) (mC (.int 0))) (mTup (mCons (mC (.str [110, 117, 109])) (mCons (mC (.str [110, 97, 109, 101])) mNil)))) [.v (.tup (.str w :: l))] = some false := by
    have e1 : mBin ixD (mVar 0) (mC (.int 0)) [.v (.tup (.str w :: l))] = some (.str w) := by
      show ixD (.tup (.str w :: l)) (.int 0) = _
      simp [ixD, at_zero]
    have e2 : mTup (mCons (mC (.str [110, 117, 109])) (mCons (mC (.str [110, 97, 109, 101])) mNil)) [.v (.tup (.str w :: l))] = some (.tup [.str sNum, .str sNam]) := rfl
    unfold mBl mBin
    unfold mBin at e1
    rw [e1, Option.bind_some, e2, Option.bind_some]
    have g1 : ¬ sNum = w := fun q => h1 q.symm
    have g2 : ¬ sNam = w := fun q => h2 q.symm
    simp [inD, flatD, eqF, g1, g2, blD]
  unfold F_written_parts mkF g_written_parts
  have g1 : ([.v (.tup (.str w :: l))] ++ List.replicate (1 - 1) Sl.un) = [.v (.tup (.str w :: l))] := rfl
  rw [g1, seq_of (r' := [.v (.tup (.str w :: l))]) (by rw [sIf_f e]; rfl)]
  exact ⟨_, rfl⟩
def bodyS : MS := (sSeq (sSetX 3 (mPop 2))
 (sIf (mTru (mUn (instD "tuple") (mVar 3)))
 (sX (mExt 2 (mUn revD (mCall 1 F_written_parts (mCons (mVar 3) mNil)))))
 (sX (mApp 1 (mUn strD (mVar 3))))))
theorem bodyS_t {E : D} {F S l m : List D} {x : Sl} (hx : fre x) (hw : ∃ as, F_written_parts [.v (.tup l)] = some (.v (.tup m), as)) (hS : S.length + m.length ≤ sizeLine) :
    bodyS [.v E, .o F, .o (S ++ [.tup l]), x] = some (.nx [.v E, .o F, .o (S ++ m.reverse), .v (.tup l)]) := by
  obtain ⟨as, hw⟩ := hw
  unfold bodyS
  rw [seq_of (r' := [.v E, .o F, .o S, .v (.tup l)]) (sSetX_of (pop_of rfl) (setV_fre (x := x) rfl hx))]
  rw [sIf_t (by rfl)]
  refine sX_of (d := .non) ?_
  refine ext_of (d := .tup m.reverse) (S := S) rfl ?_ rfl (by rw [List.length_reverse]; exact hS)
  show (((F_written_parts [.v (.tup l)]).map (fun p => rsD p.1)).bind revD) = _
  rw [hw]; rfl
theorem bodyS_s {E : D} {F S : List D} {x : Sl} {d : D} {s : List Nat} (hx : fre x) (hp : plain d) (ht : isT d = false) (hs : strD d = some (.str s)) (hF : F.length < sizeLine) :
    bodyS [.v E, .o F, .o (S ++ [d]), x] = some (.nx [.v E, .o (F ++ [.str s]), .o S, .v d]) := by
  unfold bodyS
  rw [seq_of (r' := [.v E, .o F, .o S, .v d]) (sSetX_of (pop_of rfl) (setV_fre (x := x) rfl hx))]
  have e : mTru (mUn (instD "tuple") (mVar 3)) [.v E, .o F, .o S, .v d] = some false := by
    show ((some d).bind (instD "tuple")).bind truD = _
    rw [Option.bind_some, instT hp, ht]; rfl
  rw [sIf_f e]
  exact sX_of (app_of (d := .str s) rfl hs hF)
namespace Fo
def st : Fo → Nat
  | nil => 0
  | nm _ r => st r + 1
  | nam _ r => st r + 2
  | num _ r => st r + 2
  | nd _ ps r => st ps + st r + 2
theorem st_le : ∀ f : Fo, f.st ≤ 2 * f.ws.length
  | nil => by simp [st]
  | nm _ r => by have := st_le r; simp [st, ws]; omega
  | nam _ r => by have := st_le r; simp [st, ws]; omega
  | num _ r => by have := st_le r; simp [st, ws]; omega
  | nd _ ps r => by have := st_le r; have := st_le ps; simp [st, ws]; omega
end Fo
abbrev wS (m : Nat) (E : D) (F S : List D) (x : Sl) : Option Fl := sWhile m (mTruB (mOwn 2)) bodyS [.v E, .o F, .o S, x]
theorem sh_s {E : D} {F S m : List D} {x : Sl} {d : D} {s : List Nat} {k : Nat} (hx : fre x) (hp : plain d) (ht : isT d = false) (hs : strD d = some (.str s)) (hF : F.length < sizeLine) :
    wS (k + 1) E F (S ++ (d :: m).reverse) x = wS k E (F ++ [.str s]) (S ++ m.reverse) (.v d) := by
  rw [List.reverse_cons, ← List.append_assoc]
  exact while_go cnd (bodyS_s hx hp ht hs hF)
theorem sh_t {E : D} {F S l n m : List D} {x : Sl} {k : Nat} (hx : fre x) (hw : ∃ as, F_written_parts [.v (.tup l)] = some (.v (.tup n), as)) (hS : S.length + m.length + n.length ≤ sizeLine) :
    wS (k + 1) E F (S ++ (.tup l :: m).reverse) x = wS k E F (S ++ m.reverse ++ n.reverse) (.v (.tup l)) := by
  rw [List.reverse_cons, ← List.append_assoc]
  exact while_go cnd (bodyS_t hx hw (by rw [List.length_append, List.length_reverse]; omega))
theorem log_small {n : Nat} (h : n < 10 ^ 8) : ((n : Int)).natAbs.log2 < 1920 := by
  rw [Int.natAbs_natCast]
  by_cases h0 : n = 0
  · subst h0; decide
  · refine (Nat.log2_lt h0).mpr (Nat.lt_of_lt_of_le h ?_)
    exact Nat.le_trans (by decide : 10 ^ 8 ≤ 2 ^ 30) (Nat.pow_le_pow_right (by decide) (by decide))
theorem sh_loop (E : D) : ∀ (f : Fo) (S F : List D) (x : Sl), f.ok → fre x → F.length + f.ws.length < sizeLine → S.length + f.ws.length + 2 < sizeLine → ∃ x', fre x' ∧ ∀ m, wS (f.st + m) E F (S ++ f.ds.reverse) x = wS m E (F ++ f.ws.map D.str) S x'
  | .nil, S, F, x, _, hx, _, _ => ⟨x, hx, fun m => by simp [Fo.st, Fo.ds, Fo.ws]⟩
  | .nm y r, S, F, x, ok, hx, h1, h2 => by
    simp only [Fo.ws, List.length_cons] at h1 h2
    obtain ⟨x', q, e⟩ := sh_loop E r S (F ++ [.str y]) (.v (.str y)) ok.2 trivial (by simp; omega) (by omega)
    refine ⟨x', q, fun m => ?_⟩
    have e1 : (Fo.nm y r).st + m = r.st + m + 1 := by simp only [Fo.st]; omega
    rw [e1]
    refine (sh_s (E := E) (F := F) (S := S) (m := r.ds) (d := .str y) (s := y) (k := r.st + m) hx trivial rfl rfl (by omega)).trans ?_
    rw [e]; simp [Fo.ws]
  | .nam y r, S, F, x, ok, hx, h1, h2 => by
    simp only [Fo.ws, List.length_cons] at h1 h2
    have z := r.ds_le
    obtain ⟨x', q, e⟩ := sh_loop E r S (F ++ [.str y]) (.v (.str y)) ok.2 trivial (by simp; omega) (by omega)
    refine ⟨x', q, fun m => ?_⟩
    have e1 : (Fo.nam y r).st + m = r.st + m + 1 + 1 := by simp only [Fo.st]; omega
    rw [e1]
    refine (sh_t (E := E) (F := F) (S := S) (m := r.ds) (l := [.str sNam, .str y]) (n := [.str y]) (k := r.st + m + 1) hx (wp_leaf (.inr rfl)) (by show _ + _ + 1 ≤ _; omega)).trans ?_
    refine (sh_s (E := E) (F := F) (S := S ++ r.ds.reverse) (m := []) (d := .str y) (s := y) (k := r.st + m) (x := .v (.tup [.str sNam, .str y])) trivial trivial rfl rfl (by omega)).trans ?_
    rw [List.reverse_nil, List.append_nil, e]; simp [Fo.ws]
  | .num y r, S, F, x, ok, hx, h1, h2 => by
    simp only [Fo.ws, List.length_cons] at h1 h2
    have z := r.ds_le
    obtain ⟨x', q, e⟩ := sh_loop E r S (F ++ [.str (intC y)]) (.v (.int y)) ok.2 trivial (by simp; omega) (by omega)
    refine ⟨x', q, fun m => ?_⟩
    have e1 : (Fo.num y r).st + m = r.st + m + 1 + 1 := by simp only [Fo.st]; omega
    rw [e1]
    refine (sh_t (E := E) (F := F) (S := S) (m := r.ds) (l := [.str sNum, .int y]) (n := [.int y]) (k := r.st + m + 1) hx (wp_leaf (.inl rfl)) (by show _ + _ + 1 ≤ _; omega)).trans ?_
    refine (sh_s (E := E) (F := F) (S := S ++ r.ds.reverse) (m := []) (d := .int y) (s := intC y) (k := r.st + m) (x := .v (.tup [.str sNum, .int y])) trivial trivial rfl (if_pos (log_small (Nat.lt_trans ok.1 (by decide)))) (by omega)).trans ?_
    rw [List.reverse_nil, List.append_nil, e]; simp [Fo.ws]
  | .nd w ps r, S, F, x, ok, hx, h1, h2 => by
    simp only [Fo.ws, List.length_cons, List.length_append] at h1 h2
    have z := r.ds_le
    have z2 := ps.ds_le
    obtain ⟨x1, q1, a1⟩ := sh_loop E ps (S ++ r.ds.reverse) (F ++ [.str w]) (.v (.str w)) ok.2.1 trivial (by simp; omega) (by simp; omega)
    obtain ⟨x', q, e⟩ := sh_loop E r S (F ++ [.str w] ++ ps.ws.map D.str) x1 ok.2.2 q1 (by simp; omega) (by omega)
    refine ⟨x', q, fun m => ?_⟩
    have e1 : (Fo.nd w ps r).st + m = ps.st + (r.st + m) + 1 + 1 := by simp only [Fo.st]; omega
    rw [e1]
    refine (sh_t (E := E) (F := F) (S := S) (m := r.ds) (l := .str w :: ps.ds) (n := .str w :: ps.ds) (k := ps.st + (r.st + m) + 1) hx (wp_nd (Fo.look_head ok.1).2.1 (Fo.look_head ok.1).2.2) (by rw [List.length_cons]; omega)).trans ?_
    refine (sh_s (E := E) (F := F) (S := S ++ r.ds.reverse) (m := ps.ds) (d := .str w) (s := w) (k := ps.st + (r.st + m)) (x := .v (.tup (.str w :: ps.ds))) trivial trivial rfl rfl (by omega)).trans ?_
    rw [a1, e]; simp [Fo.ws]
theorem strs_ok : ∀ l : List (List Nat), strsD (l.map D.str) = some l
  | [] => rfl
  | s :: l => by simp [strsD, strs_ok l]
theorem Fo.one_ws {f : Fo} (h : f.one) : f.ws ≠ [] := by
  rcases f with _ | ⟨x, r⟩ | ⟨x, r⟩ | ⟨n, r⟩ | ⟨w, ps, r⟩ <;> first | (cases h; done) | skip
  all_goals simp [Fo.ws]
theorem F_shown_eq {f : Fo} {d : D} (h : f.one) (o : f.ok) (e : f.ds = [d]) (hl : f.ws.length < 10000) : ∃ as, F_shown_expression [.v d] = some (.v (.str (joinC [32] f.ws)), as) := by
  have hz : sizeLine = 16777216 := by decide
  obtain ⟨x', q, w⟩ := sh_loop d f [] [] .un o trivial (by simp; omega) (by simp; omega)
  have hp := f.st_le
  have w1 := w (WF - f.st)
  have hw : f.st + (WF - f.st) = WF := by unfold WF; omega
  have hw2 : WF - f.st = (WF - f.st - 1) + 1 := by unfold WF; omega
  rw [hw, hw2, e] at w1
  unfold wS at w1
  rw [while_end (by rfl)] at w1
  unfold bodyS at w1
  simp only [List.nil_append, List.reverse_singleton] at w1
  unfold F_shown_expression mkF g_shown_expression
  have g1 : ([.v d] ++ List.replicate (4 - 1) Sl.un) = [.v d, .un, .un, .un] := rfl
  rw [g1]
  rw [seq_of (r' := [.v d, .o [], .un, .un]) (by rfl)]
  rw [seq_of (r' := [.v d, .o [], .o [d], .un]) (by rfl)]
  rw [seq_of (r' := [.v d, .o (f.ws.map D.str), .o [], x']) w1]
  have hs := Fo.ws_sum (Fo.ws_ok f o)
  have j : mJoin (mC (.str [32])) (mOwn 1) [.v d, .o (f.ws.map D.str), .o [], x'] = some (.str (joinC [32] f.ws)) := by
    show (strsD (f.ws.map D.str)).bind _ = _
    rw [strs_ok, Option.bind_some, if_pos (by show _ + _ * 1 ≤ _; omega)]
  unfold sRet
  rw [j]
  exact ⟨_, rfl⟩
theorem for_go {bd : D → En → Option En} {g : MS} {d : D} {l : List D} {r r1 r' : En} (h : bd d r = some r1) (e : g r1 = some (.nx r')) : forL bd g (d :: l) r = forL bd g l r' := by
  show (bd d r).bind _ = _
  rw [h, Option.bind_some, e, Option.bind_some]
/-! ### alike -/
def AlOk (m : MF) (d : D) : Prop := ∃ as, m [.v d, .v d] = some (.v (.bl true), as)
theorem al_str (k : Nat) (s : List Nat) : AlOk (F__law_alike (k + 1)) (.str s) := by
  refine ⟨[.v (.str s), .v (.str s)], ?_⟩
  show mkF 2 4 (g__law_alike (F__law_alike k)) _ = _
  unfold mkF g__law_alike
  have g1 : ([.v (.str s), .v (.str s)] ++ List.replicate (4 - 2) Sl.un) = [.v (.str s), .v (.str s), .un, .un] := rfl
  rw [g1, seq_of (r' := [.v (.str s), .v (.str s), .un, .un]) (by rfl)]
  rw [seq_of (r' := [.v (.str s), .v (.str s), .un, .un]) (by rfl)]
  have e : mAnd (mUn (instD "str") (mVar 0)) (mBin eqA (mVar 0) (mVar 1)) [.v (.str s), .v (.str s), .un, .un] = some (.bl true) := by
    show some (D.bl (decide (s = s))) = _
    simp
  unfold sRet
  rw [e]; rfl
theorem al_int (k : Nat) (i : Int) : AlOk (F__law_alike (k + 1)) (.int i) := by
  refine ⟨[.v (.int i), .v (.int i)], ?_⟩
  show mkF 2 4 (g__law_alike (F__law_alike k)) _ = _
  unfold mkF g__law_alike
  have g1 : ([.v (.int i), .v (.int i)] ++ List.replicate (4 - 2) Sl.un) = [.v (.int i), .v (.int i), .un, .un] := rfl
  rw [g1, seq_of (r' := [.v (.int i), .v (.int i), .un, .un]) (by rfl)]
  have e : mAnd (mUn (instD "int") (mVar 0)) (mAnd (mUn notD (mUn (instD "bool") (mVar 0))) (mBin eqA (mVar 0) (mVar 1))) [.v (.int i), .v (.int i), .un, .un] = some (.bl true) := by
    show some (D.bl (decide (i = i))) = _
    simp
  refine (congrArg (fun o => Option.bind o _) (seq_rt (d := .bl true) (r' := [.v (.int i), .v (.int i), .un, .un]) ?_)).trans rfl
  rw [sIf_t (by rfl)]
  unfold sRet
  rw [e]; rfl
def bodyA (m : MF) : MS := (sIf (mNotT (mTru (mCall 2 m (mCons (mVar 2) (mCons (mVar 3) mNil)))))
 (sRet (mC (.bl false)))
 sSkip)
theorem al_loop {m : MF} {a b : D} : ∀ (l : List D) (x y : Sl), fre x → fre y → (∀ e ∈ l, AlOk m e) → ∃ x' y', forL (bdSeq 2 (bdCons (setV 2) (bdCons (setV 3) bdNil))) (bodyA m) (zipD l l) [.v a, .v b, x, y] = some (.nx [.v a, .v b, x', y'])
  | [], x, y, _, _, _ => ⟨x, y, rfl⟩
  | d :: l, x, y, hx, hy, h => by
    obtain ⟨x', y', e⟩ := al_loop (a := a) (b := b) l (.v d) (.v d) trivial trivial fun q hq => h q (by simp [hq])
    refine ⟨x', y', ?_⟩
    obtain ⟨as, ha⟩ := h d (by simp)
    have z : zipD (d :: l) (d :: l) = .tup [d, d] :: zipD l l := rfl
    have b1 : bdSeq 2 (bdCons (setV 2) (bdCons (setV 3) bdNil)) (.tup [d, d]) [.v a, .v b, x, y] = some [.v a, .v b, .v d, .v d] := by
      cases x <;> first | (cases hx; done) | skip
      all_goals cases y <;> first | (cases hy; done) | rfl
    have b2 : bodyA m [.v a, .v b, .v d, .v d] = some (.nx [.v a, .v b, .v d, .v d]) := by
      unfold bodyA
      rw [sIf_f ?_]
      · rfl
      · show ((((m [.v d, .v d]).map fun p => rsD p.1).bind truD).map (!·)) = _
        rw [ha]; rfl
    rw [z, for_go b1 b2, e]
theorem al_seq (k : Nat) {d : D} {l : List D} (hd : d = .tup l ∨ d = .lst l) (h : ∀ e ∈ l, AlOk (F__law_alike k) e) : AlOk (F__law_alike (k + 1)) d := by
  obtain ⟨x', y', e⟩ := al_loop (m := F__law_alike k) (a := d) (b := d) l .un .un trivial trivial h
  refine ⟨[.v d, .v d], ?_⟩
  show mkF 2 4 (g__law_alike (F__law_alike k)) _ = _
  unfold mkF g__law_alike
  have g1 : ([.v d, .v d] ++ List.replicate (4 - 2) Sl.un) = [.v d, .v d, .un, .un] := rfl
  rw [g1]
  refine (congrArg (fun o => Option.bind o _) (seq_rt (d := .bl true) (r' := [.v d, .v d, x', y']) ?_)).trans rfl
  rw [sIf_t (by rcases hd with rfl | rfl <;> rfl)]
  rw [seq_of (r' := [.v d, .v d, .un, .un]) (by rcases hd with rfl | rfl <;> rfl)]
  have ln : mBl (mBin neA (mUn lenD (mVar 0)) (mUn lenD (mVar 1))) [.v d, .v d, .un, .un] = some false := by
    rcases hd with rfl | rfl
    all_goals
      show some (!decide ((l.length : Int) = (l.length : Int))) = _
      simp
  rw [seq_of (r' := [.v d, .v d, .un, .un]) (by rw [sIf_f ln]; rfl)]
  have fe : sFor (bdSeq 2 (bdCons (setV 2) (bdCons (setV 3) bdNil))) (mZip (mVar 0) (mVar 1)) (bodyA (F__law_alike k)) [.v d, .v d, .un, .un] = some (.nx [.v d, .v d, x', y']) := by
    have it : mZip (mVar 0) (mVar 1) [.v d, .v d, .un, .un] = some (zipD l l) := by rcases hd with rfl | rfl <;> rfl
    unfold sFor
    rw [it]
    exact e
  unfold bodyA at fe
  rw [seq_of fe]
  rfl
theorem al_ok : ∀ (k : Nat) (f : Fo), f.lv ≤ k → ∀ d ∈ f.ds, AlOk (F__law_alike (k + 2)) d
  | k, .nil, _, d, h => by simp [Fo.ds] at h
  | k, .nm x r, hl, d, h => by
    simp only [Fo.ds, List.mem_cons] at h
    simp only [Fo.lv] at hl
    rcases h with rfl | h
    · exact al_str _ _
    · exact al_ok k r hl d h
  | k, .nam x r, hl, d, h => by
    simp only [Fo.ds, List.mem_cons] at h
    simp only [Fo.lv] at hl
    rcases h with rfl | h
    · exact al_seq _ (.inl rfl) fun e he => by
        simp at he; rcases he with rfl | rfl <;> exact al_str _ _
    · exact al_ok k r (by omega) d h
  | k, .num x r, hl, d, h => by
    simp only [Fo.ds, List.mem_cons] at h
    simp only [Fo.lv] at hl
    rcases h with rfl | h
    · exact al_seq _ (.inl rfl) fun e he => by
        simp at he; rcases he with rfl | rfl
        · exact al_str _ _
        · exact al_int _ _
    · exact al_ok k r (by omega) d h
  | k, .nd w ps r, hl, d, h => by
    simp only [Fo.ds, List.mem_cons] at h
    simp only [Fo.lv] at hl
    rcases h with rfl | h
    · obtain ⟨j, rfl⟩ : ∃ j, k = j + 1 := ⟨k - 1, by omega⟩
      exact al_seq _ (.inl rfl) fun e he => by
        simp only [List.mem_cons] at he
        rcases he with rfl | he
        · exact al_str _ _
        · exact al_ok j ps (by omega) e he
    · exact al_ok k r (by omega) d h
end K02
namespace K02
open PySem PySem.Spec PyProof.Rows L2 DD
/-! ### what the law draws -/
section
variable {f g : ME} {fl gl : ML} {r : En} {x y d : D} {i j : Int}
theorem bin_of {m : D → D → Option D} (e1 : f r = some x) (e2 : g r = some y) (e : m x y = some d) : mBin m f g r = some d := by
  unfold mBin; rw [e1, Option.bind_some, e2]; exact e
theorem un_of {m : D → Option D} (e1 : f r = some x) (e : m x = some d) : mUn m f r = some d := by
  unfold mUn; rw [e1]; exact e
theorem add_of (e1 : f r = some (.int i)) (e2 : g r = some (.int j)) : mBin addD f g r = some (.int (i + j)) := bin_of e1 e2 rfl
theorem mod_of (e1 : f r = some (.int i)) (e2 : g r = some (.int j)) (h : 0 < j) : mBin modD f g r = some (.int (i % j)) := bin_of e1 e2 (if_pos h)
theorem mul_of (e1 : f r = some (.int i)) (e2 : g r = some (.int j)) (h : -(2 ^ 64) < i ∧ i < 2 ^ 64) : mBin mulD f g r = some (.int (i * j)) := bin_of e1 e2 (if_pos (.inl h))
theorem fdiv_of (e1 : f r = some (.int i)) (e2 : g r = some (.int j)) (h : 0 < j ∧ j < 1073741824) : mBin fdivD f g r = some (.int (i / j)) := bin_of e1 e2 (if_pos h)
theorem con_of : mC d r = some d := rfl
theorem cons_of {l : List D} (e1 : f r = some x) (e2 : fl r = some l) : mCons f fl r = some (x :: l) := by
  unfold mCons; rw [e1, Option.bind_some, e2]; rfl
theorem nil_of : mNil r = some [] := rfl
theorem lstF_of {l : List D} (e : fl r = some l) (h : l.length ≤ 100) : mOfF (mLstF fl) r = some (.lst l) := by
  unfold mOfF mLstF; rw [e, Option.bind_some, if_pos (Nat.le_trans h (by decide))]; rfl
theorem tup_of {l : List D} (e : fl r = some l) (h : l.length ≤ 100) : mTup fl r = some (.tup l) := by
  unfold mTup; rw [e, Option.bind_some, if_pos (Nat.le_trans h (by decide))]
theorem call_of {n : Nat} {m : MF} {l : List D} {p : Rs} (e : fl r = some l) (hl : l.length = n) (h : ∃ as, m (l.map .v) = some (p, as)) : mCall n m fl r = some (rsD p) := by
  obtain ⟨as, h⟩ := h
  unfold mCall; rw [e, Option.bind_some, if_pos hl, h]; rfl
theorem bl_of {b : Bool} (e : f r = some (.bl b)) : mBl f r = some b := by
  unfold mBl; rw [e]; rfl
theorem ret_of (e : f r = some d) : sRet f r = some (.rt d r) := by
  unfold sRet; rw [e]; rfl
theorem seq_set {k : Nat} {h : MS} {r2 : En} {z : Option Fl} (d : D) (e : f r = some d) (e2 : setV k d r = some r2) (q : h r2 = z) : sSeq (sSet k f) h r = z := by
  rw [seq_of (sSet_of e e2)]; exact q
theorem seq_ff {c : MB} {a h : MS} {z : Option Fl} (e : c r = some false) (q : h r = z) : sSeq (sIf c a sSkip) h r = z := by
  rw [seq_of (r' := r) (by rw [sIf_f e]; rfl)]; exact q
theorem seq_tt {c : MB} {a h : MS} {r' : En} (e : c r = some true) (q : a r = some (.rt d r')) : sSeq (sIf c a sSkip) h r = some (.rt d r') := seq_rt (by rw [sIf_t e]; exact q)
theorem mk_rt {n N : Nat} {s : MS} {as : List Sl} {r' : En} (e : s (as ++ List.replicate (N - n) .un) = some (.rt d r')) : ∃ bs, mkF n N s as = some (.v d, bs) := by
  unfold mkF; rw [e]; exact ⟨_, rfl⟩
end
theorem mixed_eq (c k : Int) : ∃ n : Int, 0 ≤ n ∧ ∃ as, F__law_mixed [.v (.int c), .v (.int k)] = some (.v (.int n), as) := by
  let n1 : Int := (c % 2147483647 + 16807 * k + 7) % 2147483629
  let n2 : Int := n1 * n1 % 2147483587
  have h1 : 0 ≤ n1 ∧ n1 < 2147483629 := ⟨Int.emod_nonneg _ (by decide), Int.emod_lt_of_pos _ (by decide)⟩
  have h2 : 0 ≤ n2 ∧ n2 < 2147483587 := ⟨Int.emod_nonneg _ (by decide), Int.emod_lt_of_pos _ (by decide)⟩
  refine ⟨n2 * (n2 + 48271) % 2147483579 / 5, ?_, ?_⟩
  · exact Int.ediv_nonneg (Int.emod_nonneg _ (by decide)) (by decide)
  · refine mk_rt (r' := [.v (.int c), .v (.int k), .v (.int n2)]) ?_
    show g__law_mixed [.v (.int c), .v (.int k), .un] = _
    unfold g__law_mixed
    rw [seq_of (sSet_of (d := .int n1) (r2 := [.v (.int c), .v (.int k), .v (.int n1)]) (mod_of (add_of (add_of (mod_of rfl con_of (by decide)) (mul_of con_of rfl (by decide))) con_of) con_of (by decide)) (by rfl))]
    rw [seq_of (sSet_of (d := .int n2) (r2 := [.v (.int c), .v (.int k), .v (.int n2)]) (mod_of (mul_of rfl rfl (by omega)) con_of (by decide)) (by rfl))]
    exact ret_of (fdiv_of (mod_of (mul_of rfl (add_of rfl con_of) (by omega)) con_of (by decide)) con_of (by decide))
/-- letters alone -/
def lw (s : List Nat) : Prop := ∀ c ∈ s, 97 ≤ c ∧ c ≤ 122
theorem lw.wd {s : List Nat} (h : lw s) (hl : s.length ≤ 8) : Fo.wd s := ⟨fun q => by have := h 32 q; omega, hl⟩
theorem lw.app {s t : List Nat} (h : lw s) (h' : lw t) : lw (s ++ t) := fun c hc => by
  rcases List.mem_append.mp hc with q | q
  · exact h c q
  · exact h' c q
theorem cut_mem {α : Type} {l : List α} {lo hi : Option Int} {x : α} (h : x ∈ cutL l lo hi) : x ∈ l := List.mem_of_mem_drop (List.mem_of_mem_take h)
theorem lw.cut {s : List Nat} (h : lw s) (lo hi : Option Int) : lw (cutL s lo hi) := fun c hc => h c (cut_mem hc)
def abc : List Nat := [97, 98, 99, 100, 101, 102, 103, 104, 105, 106, 107, 108, 109, 110, 111, 112, 113, 114, 115, 116, 117, 118, 119, 120, 121, 122]
theorem abc_at {i : Int} (h0 : 0 ≤ i) (h : i < 26) : ∃ c, 97 ≤ c ∧ c ≤ 122 ∧ ixD (.str abc) (.int i) = some (.str [c]) := by
  obtain ⟨j, rfl⟩ := Int.eq_ofNat_of_zero_le h0; have hj : j < 26 := by omega
  have a : ∀ j : Nat, j < 26 → abc[j]? = some (97 + j) := by decide
  refine ⟨97 + j, by omega, by omega, ?_⟩
  show (if abc.length ≤ sizeLine then (atI abc (j : Int)).map fun c => D.str [c] else none) = _
  rw [if_pos (by decide), atI_nat (a j hj)]; rfl
theorem cut_tail {α : Type} (s : List α) : (cutL s (some 1) none).length ≤ s.length - 1 := by
  unfold cutL
  have e : HT.sIx s.length 0 (some 1) = min 1 s.length := HT.sIx_nat s.length 0 1
  rw [List.length_take, List.length_drop, e]
  omega
theorem cut_len {α : Type} (s : List α) (lo hi : Option Int) : (cutL s lo hi).length ≤ s.length := by
  unfold cutL
  rw [List.length_take, List.length_drop]; omega
theorem cut_7 {α : Type} (s : List α) : (cutL s none (some 7)).length ≤ 7 := by
  unfold cutL
  have e : HT.sIx s.length s.length (some 7) = min 7 s.length := HT.sIx_nat s.length s.length 7
  rw [List.length_take, e]; omega
theorem str_add {s t : List Nat} (h : s.length + t.length ≤ 100) : addD (.str s) (.str t) = some (.str (s ++ t)) := if_pos (Nat.le_trans h (by decide))
def kept : List (List Nat) := [[100, 101, 102], [102, 110], [100, 111], [101, 109, 112, 116, 121], [103, 101, 116], [119, 105, 116, 104], [112, 117, 116], [108, 101, 115, 115], [116, 97, 103], [119, 105, 100, 101], [99, 97, 115, 101], [110, 101, 118, 101, 114], [105, 102]]
theorem kept_eq : ∃ as, F__law_kept [] = some (.v (.lst (kept.map D.str)), as) := ⟨_, rfl⟩
theorem sl_of {f : ME} {lo hi : MO} {r : En} {x d : D} {a b : Option Int} (e1 : f r = some x) (e2 : lo r = some a) (e3 : hi r = some b) (e : slD x a b = some d) : mSl f lo hi r = some d := by
  unfold mSl; rw [e1, Option.bind_some, e2, Option.bind_some, e3]; exact e
theorem sl_str {s : List Nat} {lo hi : Option Int} (h : s.length ≤ 100) : slD (.str s) lo hi = some (.str (cutL s lo hi)) := if_pos (Nat.le_trans h (by decide))
def bodyN : MS := (sSet 1 (mBin addD (mVar 1) (mBin ixD (mC (.str [97, 98, 99, 100, 101, 102, 103, 104, 105, 106, 107, 108, 109, 110, 111, 112, 113, 114, 115, 116, 117, 118, 119, 120, 121, 122])) (mBin modD (mCall 2 F__law_mixed (mCons (mVar 0) (mCons (mBin addD (mC (.int 30)) (mVar 2)) mNil))) (mC (.int 26))))))
theorem name_loop (n : Int) : ∀ (L : List Int) (s : List Nat) (x : Sl), lw s → s.length + L.length ≤ 8 → fre x → ∃ t x', lw t ∧ t.length = s.length + L.length ∧ fre x' ∧ forL (setV 2) bodyN (L.map D.int) [.v (.int n), .v (.str s), x] = some (.nx [.v (.int n), .v (.str t), x'])
  | [], s, x, h, _, hx => ⟨s, x, h, rfl, hx, rfl⟩
  | k :: L, s, x, h, hl, hx => by
    rw [List.length_cons] at hl
    obtain ⟨m, m0, hm⟩ := mixed_eq n (30 + k)
    obtain ⟨c, c1, c2, hc⟩ := abc_at (i := m % 26) (Int.emod_nonneg _ (by decide)) (Int.emod_lt_of_pos _ (by decide))
    obtain ⟨t, x', q1, q2, q3, q4⟩ := name_loop n L (s ++ [c]) (.v (.int k)) (h.app fun d hd => by simp at hd; subst hd; exact ⟨c1, c2⟩) (by simp; omega) trivial
    refine ⟨t, x', q1, by rw [q2, List.length_append, List.length_cons, List.length_cons, List.length_nil]; omega, q3, ?_⟩
    have b : bodyN [.v (.int n), .v (.str s), .v (.int k)] = some (.nx [.v (.int n), .v (.str (s ++ [c])), .v (.int k)]) := by
      refine sSet_of (d := .str (s ++ [c])) ?_ (by rfl)
      refine bin_of (x := .str s) (y := .str [c]) rfl ?_ (str_add (by show _ + 1 ≤ _; omega))
      refine bin_of (x := .str abc) con_of (mod_of ?_ con_of (by decide)) hc
      exact call_of (p := .v (.int m)) (cons_of rfl (cons_of (add_of con_of rfl) nil_of)) rfl hm
    rw [List.map_cons, for_go (setV_fre (x := x) rfl hx) b, q4]
theorem rngD_ints (n : Nat) : rngD 0 n = ((List.range n).map fun i => (0 : Int) + (i : Nat)).map D.int := by
  unfold rngD; rw [List.map_map]; rfl
theorem any_eq (t : List Nat) : ∀ ss : List (List Nat), ((ss.map D.str).any fun z => eqF z (.str t)) = decide (t ∈ ss)
  | [] => by simp
  | x :: ss => by
    have ih := any_eq t ss
    rw [List.map_cons, List.any_cons, ih]
    show (decide (x = t) || decide (t ∈ ss)) = _
    by_cases c : x = t
    · subst c; simp
    · have c' : ¬ t = x := fun e => c e.symm
      simp [c, c']
theorem kept_head : ∀ w ∈ kept, w.head? ≠ some 113 ∧ w.head? ≠ some 122 ∧ w.getLast? ≠ some 113 ∧ w.getLast? ≠ some 122 ∧ w.length ≤ 5 := by decide
theorem name_eq {n : Int} (h0 : 0 ≤ n) : ∃ s, lw s ∧ 1 ≤ s.length ∧ s.length ≤ 8 ∧ s ∉ kept ∧ ∃ as, F__law_name [.v (.int n)] = some (.v (.str s), as) := by
  have m0 : 0 ≤ n % 8 := Int.emod_nonneg _ (by decide)
  have m8 : n % 8 < 8 := Int.emod_lt_of_pos _ (by decide)
  obtain ⟨t, x', q1, q2, q3, q4⟩ := name_loop n ((List.range (1 + n % 8).toNat).map fun i => (0 : Int) + (i : Nat)) [] .un (fun c hc => by simp at hc) (by simp; omega) trivial
  have lt : t.length ≤ 8 := by rw [q2]; simp; omega
  have l1 : 1 ≤ t.length := by rw [q2]; simp; omega
  have s1 : g__law_name [.v (.int n), .un, .un] = sSeq (sIf (mBl (mBin (inD false) (mVar 1) (mCall 0 F__law_kept mNil)))
      (sRet (mBin addD (mC (.str [113])) (mSl (mVar 1) (oSome (mC (.int 1))) oNone)))
      sSkip) (sRet (mVar 1)) [.v (.int n), .v (.str t), x'] := by
    unfold g__law_name
    rw [seq_of (r' := [.v (.int n), .v (.str []), .un]) (by rfl)]
    have it : mRng1 (mBin addD (mC (.int 1)) (mBin modD (mVar 0) (mC (.int 8)))) [.v (.int n), .v (.str []), .un] = some (rngD 0 (1 + n % 8).toNat) := by
      have e : mBin addD (mC (.int 1)) (mBin modD (mVar 0) (mC (.int 8))) [.v (.int n), .v (.str []), .un] = some (.int (1 + n % 8)) := add_of con_of (mod_of rfl con_of (by decide))
      unfold mRng1
      rw [e]
      show (if -(2 ^ 62) ≤ (1 + n % 8) ∧ (1 + n % 8) < 2 ^ 62 then some (rngD 0 (1 + n % 8).toNat) else none) = _
      rw [if_pos (by omega)]
    have fe : sFor (setV 2) (mRng1 (mBin addD (mC (.int 1)) (mBin modD (mVar 0) (mC (.int 8))))) bodyN [.v (.int n), .v (.str []), .un] = some (.nx [.v (.int n), .v (.str t), x']) := by
      unfold sFor
      rw [it, rngD_ints]
      exact q4
    unfold bodyN at fe
    rw [seq_of fe]
  have hb : mBl (mBin (inD false) (mVar 1) (mCall 0 F__law_kept mNil)) [.v (.int n), .v (.str t), x'] = some (decide (t ∈ kept)) := by
    rw [← any_eq t kept]
    exact bl_of (bin_of (x := .str t) (y := .lst (kept.map D.str)) rfl (call_of (p := .v (.lst (kept.map D.str))) nil_of rfl kept_eq) (by simp [inD, flatD]))
  by_cases hk : t ∈ kept
  rotate_left
  · rw [decide_eq_false hk] at hb
    refine ⟨t, q1, l1, lt, hk, mk_rt (r' := [.v (.int n), .v (.str t), x']) ?_⟩
    show g__law_name [.v (.int n), .un, .un] = _
    rw [s1, seq_of (r' := [.v (.int n), .v (.str t), x']) (by rw [sIf_f hb]; rfl)]
    rfl
  · rw [decide_eq_true hk] at hb
    have ct := cut_tail t
    refine ⟨[113] ++ cutL t (some 1) none, lw.app (fun c hc => by simp at hc; omega) (q1.cut _ _), by simp, by simp; omega, fun hq => (kept_head _ hq).1 rfl, mk_rt (r' := [.v (.int n), .v (.str t), x']) ?_⟩
    show g__law_name [.v (.int n), .un, .un] = _
    rw [s1, seq_rt (d := .str ([113] ++ cutL t (some 1) none)) (r' := [.v (.int n), .v (.str t), x']) ?_]
    rw [sIf_t hb]
    exact ret_of (bin_of con_of (sl_of (x := .str t) rfl (by rfl) (by rfl) (sl_str (by omega))) (str_add (by simp; omega)))
theorem cut7_eq {α : Type} (s : List α) : cutL s none (some 7) = s.take 7 := by
  unfold cutL
  have e : HT.sIx s.length s.length (some 7) = min 7 s.length := HT.sIx_nat s.length s.length 7
  rw [e, HT.sIx_none, List.drop_zero, Nat.sub_zero, List.take_eq_take_iff]
  omega
theorem lst_add {l m : List D} (h : l.length + m.length ≤ 100000) : addD (.lst l) (.lst m) = some (.lst (l ++ m)) := if_pos (Nat.le_trans h (by decide))
theorem names_eq (c : Int) : ∃ l : List (List Nat), l.length = 6 ∧ (∀ x ∈ l, Fo.nmok x) ∧ ∃ as, F__law_names [.v (.int c)] = some (.v (.lst (l.map D.str)), as) := by
  obtain ⟨m3, z3, h3⟩ := mixed_eq c 3
  obtain ⟨m4, z4, h4⟩ := mixed_eq c 4
  obtain ⟨m5, z5, h5⟩ := mixed_eq c 5
  obtain ⟨s3, w3, p3, l3, k3, e3⟩ := name_eq z3
  obtain ⟨s4, w4, p4, l4, k4, e4⟩ := name_eq z4
  obtain ⟨s5, w5, p5, l5, k5, e5⟩ := name_eq z5
  let nr := cutL s3 none (some 7)
  have nl : nr.length ≤ 7 := cut_7 s3
  have nw : lw nr := w3.cut _ _
  have ne : nr = s3.take 7 := cut7_eq s3
  have n1 : 1 ≤ nr.length := by rw [ne, List.length_take]; omega
  have nk : nr ∉ kept := fun hq => by
    by_cases c : s3.length ≤ 7
    · rw [ne, List.take_of_length_le c] at hq; exact k3 hq
    · have := (kept_head _ hq).2.2.2.2
      rw [ne, List.length_take] at this
      omega
  have t1 := cut_len nr none (some (-1))
  have t2 := cut_len nr (some 1) none
  let W : List (List Nat) := [nr, nr ++ [113], cutL nr none (some (-1)) ++ [122], [122] ++ cutL nr (some 1) none]
  refine ⟨W ++ [s4, s5], rfl, ?_, mk_rt (r' := [.v (.int c), .v (.str nr), .v (.lst (W.map D.str))]) ?_⟩
  · intro x hx
    have hq : lw [113] := fun c hc => by simp at hc; omega
    have hz : lw [122] := fun c hc => by simp at hc; omega
    simp only [W, List.mem_append, List.mem_cons, List.not_mem_nil, or_false] at hx
    rcases hx with (rfl | rfl | rfl | rfl) | rfl | rfl
    · exact ⟨nw, n1, by omega, nk⟩
    · exact ⟨nw.app hq, by simp, by simp; omega, fun z => (kept_head _ z).2.2.1 (by simp)⟩
    · exact ⟨(nw.cut _ _).app hz, by simp, by simp; omega, fun z => (kept_head _ z).2.2.2.1 (by simp)⟩
    · exact ⟨hz.app (nw.cut _ _), by simp, by simp; omega, fun z => (kept_head _ z).2.1 rfl⟩
    · exact ⟨w4, p4, l4, k4⟩
    · exact ⟨w5, p5, l5, k5⟩
  · show g__law_names [.v (.int c), .un, .un] = _
    unfold g__law_names
    refine seq_set (.str nr) (sl_of (x := .str s3) (call_of (p := .v (.str s3)) (cons_of (call_of (p := .v (.int m3)) (cons_of rfl (cons_of con_of nil_of)) rfl h3) nil_of) rfl e3) (by rfl) (by rfl) (sl_str (by omega))) (by rfl) ?_
    refine seq_set (.lst (W.map D.str)) ?_ (by rfl) ?_
    rotate_left
    · refine ret_of (bin_of (x := .lst (W.map D.str)) rfl (lstF_of (cons_of (call_of (p := .v (.str s4)) (cons_of (call_of (p := .v (.int m4)) (cons_of rfl (cons_of con_of nil_of)) rfl h4) nil_of) rfl e4) (cons_of (call_of (p := .v (.str s5)) (cons_of (call_of (p := .v (.int m5)) (cons_of rfl (cons_of con_of nil_of)) rfl h5) nil_of) rfl e5) nil_of)) (by show 2 ≤ 100; decide)) ?_)
      rw [List.map_append]
      exact lst_add (by show 4 + 2 ≤ _; decide)
    · refine lstF_of (cons_of rfl (cons_of (bin_of (x := .str nr) rfl con_of (str_add (by show _ + 1 ≤ _; omega))) (cons_of (bin_of (sl_of (x := .str nr) rfl (by rfl) (by rfl) (sl_str (by omega))) con_of (str_add (by show _ + 1 ≤ _; omega))) (cons_of (bin_of con_of (sl_of (x := .str nr) rfl (by rfl) (by rfl) (sl_str (by omega))) (str_add (by show 1 + _ ≤ _; omega))) nil_of)))) (by show 4 ≤ 100; decide)
end K02
namespace K02
open PySem PySem.Spec PyProof.Rows L2 DD
/-! ### the pile's items -/
def Fo.hd (f : Fo) : D := f.ds.headD .non
def itm (f : Fo) : D := .tup [f.hd, .lst (f.ws.map D.str), .int ((f.lv : Int) - 1)]
theorem Fo.one_ds {f : Fo} (h : f.one) : f.ds = [f.hd] := by
  rcases f with _ | ⟨x, r⟩ | ⟨x, r⟩ | ⟨n, r⟩ | ⟨w, ps, r⟩ <;> first | (cases h; done) | skip
  all_goals cases r <;> first | (cases h; done) | rfl
theorem Fo.one_form {f : Fo} (h : f.one) : f.form = [69] := by
  rcases f with _ | ⟨x, r⟩ | ⟨x, r⟩ | ⟨n, r⟩ | ⟨w, ps, r⟩ <;> first | (cases h; done) | skip
  all_goals cases r <;> first | (cases h; done) | rfl
theorem itm_nd (w : List Nat) (ps : Fo) : itm (.nd w ps .nil) = .tup [.tup (.str w :: ps.ds), .lst (.str w :: ps.ws.map D.str), .int ps.lv] := by
  have e : ((max (ps.lv + 1) 0 : Nat) : Int) - 1 = ps.lv := by omega
  simp [itm, Fo.hd, Fo.ds, Fo.ws, Fo.lv]
/-- what the law puts on its pile -/
structure Gd (f : Fo) : Prop where
  one : f.one
  ok : f.ok
  lv : f.lv ≤ 31
theorem Fo.one_lv {f : Fo} (h : f.one) : 1 ≤ f.lv := by
  rcases f with _ | ⟨x, r⟩ | ⟨x, r⟩ | ⟨n, r⟩ | ⟨w, ps, r⟩ <;> first | (cases h; done) | (simp only [Fo.lv]; omega)
theorem ix_lit (ss : List (List Nat)) {i : Int} (h0 : 0 ≤ i) (h : i < ss.length) : ∃ w ∈ ss, ixD (.lst (ss.map D.str)) (.int i) = some (.str w) := by
  obtain ⟨j, rfl⟩ := Int.eq_ofNat_of_zero_le h0; have hj : j < ss.length := by omega
  refine ⟨ss[j], List.getElem_mem hj, ?_⟩
  exact atI_nat (by simp [hj])
theorem ix_lit2 (ss : List (List Nat)) {i : Int} (h0 : 0 ≤ i) (h : i < ss.length) : ∃ j : Nat, (j : Int) = i ∧ ixD (.lst (ss.map D.str)) (.int i) = some (.str (ss.getD j [])) := by
  obtain ⟨j, rfl⟩ := Int.eq_ofNat_of_zero_le h0; have hj : j < ss.length := by omega
  refine ⟨j, rfl, ?_⟩
  exact atI_nat (by simp [hj])
structure Nms (ns : List (List Nat)) : Prop where
  len : ns.length = 6
  wd : ∀ x ∈ ns, Fo.nmok x
theorem Nms.at {ns : List (List Nat)} (h : Nms ns) (i : Int) : ∃ x, Fo.nmok x ∧ ixD (.lst (ns.map D.str)) (.int (i % 6)) = some (.str x) := by
  obtain ⟨x, hx, e⟩ := ix_lit ns (i := i % 6) (Int.emod_nonneg _ (by decide)) (by rw [h.len]; exact Int.emod_lt_of_pos _ (by decide))
  exact ⟨x, h.wd x hx, e⟩
theorem eq_int {i j : Int} : eqA (.int i) (.int j) = some (.bl (decide (i = j))) := rfl
theorem eq_str {i j : List Nat} : eqA (.str i) (.str j) = some (.bl (decide (i = j))) := rfl
def sEmpty : List Nat := [101, 109, 112, 116, 121]
theorem leaf_eq {c n : Int} {ns : List (List Nat)} (hn : Nms ns) : ∃ f : Fo, Gd f ∧ f.ws.length ≤ 4 ∧ ∃ as, F__law_leaf [.v (.int c), .v (.int n), .v (.lst (ns.map D.str))] = some (.v (itm f), as) := by
  let N : D := .lst (ns.map D.str)
  by_cases c0 : n % 5 = 0
  · refine ⟨.nd sEmpty .nil .nil, ⟨trivial, ⟨by decide, trivial, trivial⟩, by decide⟩, by decide, mk_rt (r' := [.v (.int c), .v (.int n), .v N, .un, .un]) ?_⟩
    show g__law_leaf [.v (.int c), .v (.int n), .v N, .un, .un] = _
    refine seq_tt (bl_of (b := true) (bin_of (mod_of rfl con_of (by decide)) con_of (by rw [eq_int, decide_eq_true c0]))) ?_
    exact ret_of (by rfl)
  · by_cases c1 : n % 5 < 3
    · obtain ⟨x, wx, ex⟩ := hn.at (n / 5)
      refine ⟨.nam x .nil, ⟨trivial, ⟨wx, trivial⟩, by simp [Fo.lv]⟩, by simp [Fo.ws], mk_rt (r' := [.v (.int c), .v (.int n), .v N, .v (.str x), .un]) ?_⟩
      show g__law_leaf [.v (.int c), .v (.int n), .v N, .un, .un] = _
      refine seq_ff (bl_of (b := false) (bin_of (mod_of rfl con_of (by decide)) con_of (by rw [eq_int, decide_eq_false c0]))) ?_
      refine seq_tt (bl_of (b := true) (bin_of (x := .int (n % 5)) (y := .int 3) (mod_of rfl con_of (by decide)) con_of (by show some (D.bl (decide (n % 5 < 3))) = _; rw [decide_eq_true c1]))) ?_
      refine seq_set (.str x) (bin_of (x := N) (y := .int (n / 5 % 6)) rfl (mod_of (fdiv_of rfl con_of (by decide)) con_of (by decide)) ex) (by rfl) ?_
      exact ret_of (by rfl)
    · have k0 : 0 ≤ (c + n) % 1000000 := Int.emod_nonneg _ (by decide)
      have k1 : (c + n) % 1000000 < 1000000 := Int.emod_lt_of_pos _ (by decide)
      have j0 : 0 ≤ n / 10 % 12 := Int.emod_nonneg _ (by decide)
      have j1 : n / 10 % 12 < 12 := Int.emod_lt_of_pos _ (by decide)
      have fin : ∀ m : Nat, m < 10 ^ 6 → (sRet (mTup (mCons (mTup (mCons (mC (.str [110, 117, 109])) (mCons (mVar 4) mNil))) (mCons (mOfF (mLstF (mCons (mUn strD (mVar 4)) mNil))) (mCons (mC (.int 0)) mNil))))) [.v (.int c), .v (.int n), .v N, .un, .v (.int m)] = some (.rt (itm (.num m .nil)) [.v (.int c), .v (.int n), .v N, .un, .v (.int m)]) := fun m hm => by
        refine ret_of (tup_of (l := [.tup [.str sNum, .int m], .lst [.str (intC m)], .int 0]) ?_ (by show 3 ≤ 100; decide))
        refine cons_of (tup_of (cons_of con_of (cons_of rfl nil_of)) (by show 2 ≤ 100; decide)) (cons_of (lstF_of (cons_of (un_of rfl (if_pos (log_small (Nat.lt_trans hm (by decide))))) nil_of) (by show 1 ≤ 100; decide)) (cons_of con_of nil_of))
      let m : Nat := if n / 5 % 2 = 0 then (n / 10 % 12).toNat else ((c + n) % 1000000).toNat
      have hm : m < 10 ^ 6 := by
        show (if n / 5 % 2 = 0 then (n / 10 % 12).toNat else ((c + n) % 1000000).toNat) < 10 ^ 6
        split <;> omega
      refine ⟨.num m .nil, ⟨trivial, ⟨hm, trivial⟩, by simp [Fo.lv]⟩, by simp [Fo.ws], mk_rt (r' := [.v (.int c), .v (.int n), .v N, .un, .v (.int m)]) ?_⟩
      show g__law_leaf [.v (.int c), .v (.int n), .v N, .un, .un] = _
      refine seq_ff (bl_of (b := false) (bin_of (mod_of rfl con_of (by decide)) con_of (by rw [eq_int, decide_eq_false c0]))) ?_
      refine seq_ff (bl_of (b := false) (bin_of (x := .int (n % 5)) (y := .int 3) (mod_of rfl con_of (by decide)) con_of (by show some (D.bl (decide (n % 5 < 3))) = _; rw [decide_eq_false c1]))) ?_
      refine seq_set (.int ((c + n) % 1000000)) (mod_of (j := 1000000) (add_of rfl rfl) (bin_of con_of con_of (by simp [powD])) (by decide)) (r2 := [.v (.int c), .v (.int n), .v N, .un, .v (.int ((c + n) % 1000000))]) (by rfl) ?_
      by_cases c2 : n / 5 % 2 = 0
      · have e : ((m : Nat) : Int) = n / 10 % 12 := by
          show (((if n / 5 % 2 = 0 then (n / 10 % 12).toNat else ((c + n) % 1000000).toNat) : Nat) : Int) = _
          rw [if_pos c2]; omega
        have hh : mBl (mBin eqA (mBin modD (mBin fdivD (mVar 1) (mC (.int 5))) (mC (.int 2))) (mC (.int 0))) [.v (.int c), .v (.int n), .v N, .un, .v (.int ((c + n) % 1000000))] = some true := bl_of (bin_of (mod_of (fdiv_of rfl con_of (by decide)) con_of (by decide)) con_of (by rw [eq_int, decide_eq_true c2]))
        rw [seq_of (r' := [.v (.int c), .v (.int n), .v N, .un, .v (.int m)]) ?_]
        · exact fin m hm
        · rw [sIf_t hh, e]
          exact sSet_of (mod_of (fdiv_of rfl con_of (by decide)) con_of (by decide)) (by rfl)
      · have e : ((m : Nat) : Int) = (c + n) % 1000000 := by
          show (((if n / 5 % 2 = 0 then (n / 10 % 12).toNat else ((c + n) % 1000000).toNat) : Nat) : Int) = _
          rw [if_neg c2]; omega
        refine seq_ff (bl_of (bin_of (mod_of (fdiv_of rfl con_of (by decide)) con_of (by decide)) con_of (by rw [eq_int, decide_eq_false c2]))) ?_
        rw [← e]
        exact fin m hm
def wOne : List (List Nat) := [[102, 110], [103, 101, 116], [108, 101, 115, 115], [116, 97, 103], [119, 105, 100, 101], [110, 101, 118, 101, 114]]
def wTwo : List (List Nat) := [[100, 111], [43], [45], [42], [60], [119, 105, 116, 104], [112, 117, 116]]
theorem wOne_ok : ∀ w ∈ wOne, (w = [110, 101, 118, 101, 114] → look C_FORMS w = some [69]) ∧ (w ≠ [110, 101, 118, 101, 114] → look C_FORMS w = some [110, 69]) := by decide
theorem wTwo_ok : ∀ j : Nat, j < 7 → (j < 5 → look C_FORMS (wTwo.getD j []) = some [69, 69]) ∧ (¬ j < 5 → look C_FORMS (wTwo.getD j []) = some [110, 69, 69]) := by decide
theorem lit_of (ss : List (List Nat)) (h : ss.length ≤ 100) {r : En} : mOfF (mLstF (mLit ss)) r = some (.lst (ss.map D.str)) := lstF_of rfl (by rw [List.length_map]; exact h)
theorem ix0 {f : Fo} {g : ME} {r : En} (e : g r = some (itm f)) : mBin ixD g (mC (.int 0)) r = some f.hd := bin_of e con_of rfl
theorem ix1 {f : Fo} {g : ME} {r : En} (e : g r = some (itm f)) : mBin ixD g (mC (.int 1)) r = some (.lst (f.ws.map D.str)) := bin_of e con_of rfl
theorem ix2 {f : Fo} {g : ME} {r : En} (e : g r = some (itm f)) : mBin ixD g (mC (.int 2)) r = some (.int ((f.lv : Int) - 1)) := bin_of e con_of rfl
theorem ladd {f g : ME} {r : En} {l m : List D} (e1 : f r = some (.lst l)) (e2 : g r = some (.lst m)) (h : l.length + m.length ≤ 100000) : mBin addD f g r = some (.lst (l ++ m)) := bin_of e1 e2 (lst_add h)
theorem one_eq2 {n : Int} {ns : List (List Nat)} (hn : Nms ns) {f : Fo} (hf : Gd f) (h30 : f.lv ≤ 30) (hw : f.ws.length ≤ 1000) : ∃ g : Fo, Gd g ∧ g.ws.length ≤ f.ws.length + 4 ∧ g.lv = f.lv + 1 ∧ ∃ as, F__law_one [.v (.int n), .v (.lst (ns.map D.str)), .v (itm f)] = some (.v (itm g), as) := by
  let N : D := .lst (ns.map D.str)
  obtain ⟨w, mw, ew⟩ := ix_lit wOne (i := n % 6) (Int.emod_nonneg _ (by decide)) (Int.emod_lt_of_pos _ (by decide))
  obtain ⟨x, wx, ex⟩ := hn.at (n / 6)
  obtain ⟨o1, o2⟩ := wOne_ok w mw
  have fo := Fo.one_form hf.one
  have hd := Fo.one_ds hf.one
  have l1 := Fo.one_lv hf.one
  have s : ∀ z, sSeq (sIf (mBl (mBin eqA (mVar 3) (mC (.str [110, 101, 118, 101, 114]))))
      (sRet (mTup (mCons (mTup (mCons (mC (.str [110, 101, 118, 101, 114])) (mCons (mBin ixD (mVar 2) (mC (.int 0))) mNil))) (mCons (mBin addD (mOfF (mLstF (mCons (mC (.str [110, 101, 118, 101, 114])) mNil))) (mBin ixD (mVar 2) (mC (.int 1)))) (mCons (mBin addD (mBin ixD (mVar 2) (mC (.int 2))) (mC (.int 1))) mNil)))))
      sSkip)
      (sRet (mTup (mCons (mTup (mCons (mVar 3) (mCons (mVar 4) (mCons (mBin ixD (mVar 2) (mC (.int 0))) mNil)))) (mCons (mBin addD (mOfF (mLstF (mCons (mVar 3) (mCons (mVar 4) mNil)))) (mBin ixD (mVar 2) (mC (.int 1)))) (mCons (mBin addD (mBin ixD (mVar 2) (mC (.int 2))) (mC (.int 1))) mNil))))) [.v (.int n), .v N, .v (itm f), .v (.str w), .v (.str x)] = z → g__law_one [.v (.int n), .v N, .v (itm f), .un, .un] = z := fun z h => by
    unfold g__law_one
    refine seq_set (.str w) (bin_of (lit_of wOne (by decide)) (mod_of rfl con_of (by decide)) ew) (by rfl) ?_
    refine seq_set (.str x) (bin_of (x := N) (y := .int (n / 6 % 6)) rfl (mod_of (fdiv_of rfl con_of (by decide)) con_of (by decide)) ex) (by rfl) h
  by_cases c : w = [110, 101, 118, 101, 114]
  · refine ⟨.nd w f .nil, ⟨trivial, ⟨by rw [fo]; exact o1 c, hf.ok, trivial⟩, by simp only [Fo.lv]; omega⟩, by simp [Fo.ws], by simp only [Fo.lv]; omega, mk_rt (r' := [.v (.int n), .v N, .v (itm f), .v (.str w), .v (.str x)]) (s _ ?_)⟩
    refine seq_tt (bl_of (bin_of rfl con_of (by rw [eq_str, decide_eq_true c]))) (ret_of ?_)
    rw [itm_nd, hd]
    subst c
    refine tup_of (cons_of (tup_of (cons_of con_of (cons_of (ix0 (f := f) rfl) nil_of)) (by show 2 ≤ 100; decide)) (cons_of (ladd (lstF_of (cons_of con_of nil_of) (by show 1 ≤ 100; decide)) (ix1 (f := f) rfl) (by simp; omega)) (cons_of (x := .int f.lv) ?_ nil_of))) (by show 3 ≤ 100; decide)
    have e : (f.lv : Int) = (f.lv : Int) - 1 + 1 := by omega
    rw [e]
    exact add_of (ix2 (f := f) rfl) con_of
  · refine ⟨.nd w (.nm x f) .nil, ⟨trivial, ⟨by show _ = some (110 :: f.form); rw [fo]; exact o2 c, ⟨wx, hf.ok⟩, trivial⟩, by simp only [Fo.lv]; omega⟩, by simp [Fo.ws], by simp only [Fo.lv]; omega, mk_rt (r' := [.v (.int n), .v N, .v (itm f), .v (.str w), .v (.str x)]) (s _ ?_)⟩
    refine seq_ff (bl_of (bin_of rfl con_of (by rw [eq_str, decide_eq_false c]))) (ret_of ?_)
    rw [itm_nd]
    simp only [Fo.ds, Fo.ws, Fo.lv, hd, List.map_cons]
    refine tup_of (cons_of (tup_of (cons_of rfl (cons_of rfl (cons_of (ix0 (f := f) rfl) nil_of))) (by show 3 ≤ 100; decide)) (cons_of (ladd (lstF_of (l := [.str w, .str x]) (cons_of rfl (cons_of rfl nil_of)) (by show 2 ≤ 100; decide)) (ix1 (f := f) rfl) (by simp; omega)) (cons_of (x := .int f.lv) ?_ nil_of))) (by show 3 ≤ 100; decide)
    have e : (f.lv : Int) = (f.lv : Int) - 1 + 1 := by omega
    rw [e]
    exact add_of (ix2 (f := f) rfl) con_of
theorem one_eq {n : Int} {ns : List (List Nat)} (hn : Nms ns) {f : Fo} (hf : Gd f) (h30 : f.lv ≤ 30) (hw : f.ws.length ≤ 1000) : ∃ g : Fo, Gd g ∧ g.ws.length ≤ f.ws.length + 4 ∧ ∃ as, F__law_one [.v (.int n), .v (.lst (ns.map D.str)), .v (itm f)] = some (.v (itm g), as) := by
  obtain ⟨g, a, b, _, c⟩ := one_eq2 (n := n) hn hf h30 hw
  exact ⟨g, a, b, c⟩
end K02
namespace K02
open PySem PySem.Spec PyProof.Rows L2 DD
theorem max2_of {f g : ME} {r : En} {i j : Int} (e1 : f r = some (.int i)) (e2 : g r = some (.int j)) : mMax (mCons f (mCons g mNil)) r = some (.int (max i j)) := by
  unfold mMax
  rw [cons_of e1 (cons_of e2 nil_of)]
  show some (D.int (if j > i then j else i)) = _
  congr 2
  split <;> omega
theorem max3_of {f g h : ME} {r : En} {i j k : Int} (e1 : f r = some (.int i)) (e2 : g r = some (.int j)) (e3 : h r = some (.int k)) : mMax (mCons f (mCons g (mCons h mNil))) r = some (.int (max i (max j k))) := by
  unfold mMax
  rw [cons_of e1 (cons_of e2 (cons_of e3 nil_of))]
  show some (D.int (if j > i then (if k > j then k else j) else (if k > i then k else i))) = _
  congr 2
  split <;> split <;> omega
theorem two_eq {n : Int} {ns : List (List Nat)} (hn : Nms ns) {f g : Fo} (hf : Gd f) (hg : Gd g) (h30 : f.lv ≤ 30) (g30 : g.lv ≤ 30) (hw : f.ws.length + g.ws.length ≤ 1000) : ∃ q : Fo, Gd q ∧ q.ws.length ≤ f.ws.length + g.ws.length + 4 ∧ ∃ as, F__law_two [.v (.int n), .v (.lst (ns.map D.str)), .v (itm f), .v (itm g)] = some (.v (itm q), as) := by
  let N : D := .lst (ns.map D.str)
  obtain ⟨j, ej, ew⟩ := ix_lit2 wTwo (i := n % 7) (Int.emod_nonneg _ (by decide)) (Int.emod_lt_of_pos _ (by decide))
  have j7 : n % 7 < 7 := Int.emod_lt_of_pos _ (by decide)
  generalize hw' : wTwo.getD j [] = w at ew
  obtain ⟨x, wx, ex⟩ := hn.at (n / 7)
  obtain ⟨o1, o2⟩ := wTwo_ok j (by omega)
  rw [hw'] at o1 o2
  have ff := Fo.one_form hf.one
  have fg := Fo.one_form hg.one
  have fa : (Fo.app f g).form = [69, 69] := by rw [Fo.form_app, ff, fg]; rfl
  have hd := Fo.one_ds hf.one
  have gd := Fo.one_ds hg.one
  have l1 := Fo.one_lv hf.one
  have l2 := Fo.one_lv hg.one
  have dp : 1 + max ((f.lv : Int) - 1) ((g.lv : Int) - 1) = (((Fo.app f g).lv : Nat) : Int) := by rw [Fo.lv_app]; omega
  have lf := Fo.lv_app f g
  have wf : (Fo.app f g).ws.length = f.ws.length + g.ws.length := by rw [Fo.ws_app, List.length_append]
  have s : ∀ z, sSeq (sIf (mBl (mBin ltD (mBin modD (mVar 0) (mC (.int 7))) (mC (.int 5))))
      (sRet (mTup (mCons (mTup (mCons (mVar 4) (mCons (mBin ixD (mVar 2) (mC (.int 0))) (mCons (mBin ixD (mVar 3) (mC (.int 0))) mNil)))) (mCons (mBin addD (mBin addD (mOfF (mLstF (mCons (mVar 4) mNil))) (mBin ixD (mVar 2) (mC (.int 1)))) (mBin ixD (mVar 3) (mC (.int 1)))) (mCons (mVar 6) mNil)))))
      sSkip)
      (sRet (mTup (mCons (mTup (mCons (mVar 4) (mCons (mVar 5) (mCons (mBin ixD (mVar 2) (mC (.int 0))) (mCons (mBin ixD (mVar 3) (mC (.int 0))) mNil))))) (mCons (mBin addD (mBin addD (mOfF (mLstF (mCons (mVar 4) (mCons (mVar 5) mNil)))) (mBin ixD (mVar 2) (mC (.int 1)))) (mBin ixD (mVar 3) (mC (.int 1)))) (mCons (mVar 6) mNil))))) [.v (.int n), .v N, .v (itm f), .v (itm g), .v (.str w), .v (.str x), .v (.int (Fo.app f g).lv)] = z → g__law_two [.v (.int n), .v N, .v (itm f), .v (itm g), .un, .un, .un] = z := fun z h => by
    unfold g__law_two
    refine seq_set (.str w) (bin_of (lit_of wTwo (by decide)) (mod_of rfl con_of (by decide)) ew) (by rfl) ?_
    refine seq_set (.str x) (bin_of (x := N) (y := .int (n / 7 % 6)) rfl (mod_of (fdiv_of rfl con_of (by decide)) con_of (by decide)) ex) (by rfl) ?_
    refine seq_set (.int (Fo.app f g).lv) (by rw [← dp]; exact add_of con_of (max2_of (ix2 (f := f) rfl) (ix2 (f := g) rfl))) (by rfl) h
  by_cases c : n % 7 < 5
  · refine ⟨.nd w (.app f g) .nil, ⟨trivial, ⟨by rw [fa]; exact o1 (by omega), Fo.ok_app f g hf.ok hg.ok, trivial⟩, by simp only [Fo.lv]; omega⟩, by simp [Fo.ws, wf] <;> omega, mk_rt (r' := [.v (.int n), .v N, .v (itm f), .v (itm g), .v (.str w), .v (.str x), .v (.int (Fo.app f g).lv)]) (s _ ?_)⟩
    refine seq_tt (bl_of (bin_of (x := .int (n % 7)) (y := .int 5) (mod_of rfl con_of (by decide)) con_of (by show some (D.bl (decide (n % 7 < 5))) = _; rw [decide_eq_true c]))) (ret_of ?_)
    rw [itm_nd, Fo.ds_app, Fo.ws_app, hd, gd]
    refine tup_of (cons_of (tup_of (cons_of rfl (cons_of (ix0 (f := f) rfl) (cons_of (ix0 (f := g) rfl) nil_of))) (by show 3 ≤ 100; decide)) (cons_of ?_ (cons_of rfl nil_of))) (by show 3 ≤ 100; decide)
    rw [List.map_append]
    exact ladd (l := .str w :: f.ws.map D.str) (ladd (lstF_of (l := [.str w]) (cons_of rfl nil_of) (by show 1 ≤ 100; decide)) (ix1 (f := f) rfl) (by simp; omega)) (ix1 (f := g) rfl) (by simp; omega)
  · refine ⟨.nd w (.nm x (.app f g)) .nil, ⟨trivial, ⟨by show _ = some (110 :: (Fo.app f g).form); rw [fa]; exact o2 (by omega), ⟨wx, Fo.ok_app f g hf.ok hg.ok⟩, trivial⟩, by simp only [Fo.lv]; omega⟩, by simp [Fo.ws, wf] <;> omega, mk_rt (r' := [.v (.int n), .v N, .v (itm f), .v (itm g), .v (.str w), .v (.str x), .v (.int (Fo.app f g).lv)]) (s _ ?_)⟩
    refine seq_ff (bl_of (bin_of (x := .int (n % 7)) (y := .int 5) (mod_of rfl con_of (by decide)) con_of (by show some (D.bl (decide (n % 7 < 5))) = _; rw [decide_eq_false c]))) (ret_of ?_)
    rw [itm_nd]
    simp only [Fo.ds, Fo.ws, Fo.lv, List.map_cons]
    rw [Fo.ds_app, Fo.ws_app, hd, gd]
    refine tup_of (cons_of (tup_of (cons_of rfl (cons_of rfl (cons_of (ix0 (f := f) rfl) (cons_of (ix0 (f := g) rfl) nil_of)))) (by show 4 ≤ 100; decide)) (cons_of ?_ (cons_of rfl nil_of))) (by show 3 ≤ 100; decide)
    rw [List.map_append]
    exact ladd (l := .str w :: .str x :: f.ws.map D.str) (ladd (lstF_of (l := [.str w, .str x]) (cons_of rfl (cons_of rfl nil_of)) (by show 2 ≤ 100; decide)) (ix1 (f := f) rfl) (by simp; omega)) (ix1 (f := g) rfl) (by simp; omega)
def sIfW : List Nat := [105, 102]
def sCase : List Nat := [99, 97, 115, 101]
theorem three_eq {n : Int} {ns : List (List Nat)} (hn : Nms ns) {f g h : Fo} (hf : Gd f) (hg : Gd g) (hh : Gd h) (f30 : f.lv ≤ 30) (g30 : g.lv ≤ 30) (h30 : h.lv ≤ 30) (hw : f.ws.length + g.ws.length + h.ws.length ≤ 1000) : ∃ q : Fo, Gd q ∧ q.ws.length ≤ f.ws.length + g.ws.length + h.ws.length + 4 ∧ ∃ as, F__law_three [.v (.int n), .v (.lst (ns.map D.str)), .v (.lst [itm f, itm g, itm h])] = some (.v (itm q), as) := by
  let N : D := .lst (ns.map D.str)
  let L : D := .lst [itm f, itm g, itm h]
  obtain ⟨x, wx, ex⟩ := hn.at (n / 2)
  obtain ⟨y, wy, ey⟩ := hn.at (n / 12)
  obtain ⟨z, wz, ez⟩ := hn.at (n / 72)
  have ff := Fo.one_form hf.one
  have fg := Fo.one_form hg.one
  have fh := Fo.one_form hh.one
  have fd := Fo.one_ds hf.one
  have gd := Fo.one_ds hg.one
  have hd := Fo.one_ds hh.one
  have l1 := Fo.one_lv hf.one
  have l2 := Fo.one_lv hg.one
  have l3 := Fo.one_lv hh.one
  let m : Nat := max f.lv (max g.lv h.lv)
  have dp : 1 + max ((f.lv : Int) - 1) (max ((g.lv : Int) - 1) ((h.lv : Int) - 1)) = ((m : Nat) : Int) := by
    show _ = ((max f.lv (max g.lv h.lv) : Nat) : Int)
    omega
  have hm : m ≤ 30 := by show max f.lv (max g.lv h.lv) ≤ 30; omega
  let R : En := [.v (.int n), .v N, .v L, .v (itm f), .v (itm g), .v (itm h), .v (.int m), .v (.str x), .v (.str y), .v (.str z), .un]
  have s : ∀ q, sSeq (sIf (mBl (mBin eqA (mBin modD (mVar 0) (mC (.int 2))) (mC (.int 0))))
      (sRet (mTup (mCons (mTup (mCons (mC (.str [105, 102])) (mCons (mBin ixD (mVar 3) (mC (.int 0))) (mCons (mBin ixD (mVar 4) (mC (.int 0))) (mCons (mBin ixD (mVar 5) (mC (.int 0))) mNil))))) (mCons (mBin addD (mBin addD (mBin addD (mOfF (mLstF (mCons (mC (.str [105, 102])) mNil))) (mBin ixD (mVar 3) (mC (.int 1)))) (mBin ixD (mVar 4) (mC (.int 1)))) (mBin ixD (mVar 5) (mC (.int 1)))) (mCons (mVar 6) mNil)))))
      sSkip)
      (sSeq (sSet 10 (mTup (mCons (mC (.str [99, 97, 115, 101])) (mCons (mBin ixD (mVar 3) (mC (.int 0))) (mCons (mVar 7) (mCons (mVar 8) (mCons (mBin ixD (mVar 4) (mC (.int 0))) (mCons (mVar 9) (mCons (mBin ixD (mVar 5) (mC (.int 0))) mNil)))))))))
      (sRet (mTup (mCons (mVar 10) (mCons (mBin addD (mBin addD (mBin addD (mBin addD (mBin addD (mOfF (mLstF (mCons (mC (.str [99, 97, 115, 101])) mNil))) (mBin ixD (mVar 3) (mC (.int 1)))) (mOfF (mLstF (mCons (mVar 7) (mCons (mVar 8) mNil))))) (mBin ixD (mVar 4) (mC (.int 1)))) (mOfF (mLstF (mCons (mVar 9) mNil)))) (mBin ixD (mVar 5) (mC (.int 1)))) (mCons (mVar 6) mNil)))))) R = q → g__law_three [.v (.int n), .v N, .v L, .un, .un, .un, .un, .un, .un, .un, .un] = q := fun q e => by
    unfold g__law_three
    rw [seq_of (r' := [.v (.int n), .v N, .v L, .v (itm f), .v (itm g), .v (itm h), .un, .un, .un, .un, .un]) (by rfl)]
    refine seq_set (.int m) (by rw [← dp]; exact add_of con_of (max3_of (ix2 (f := f) rfl) (ix2 (f := g) rfl) (ix2 (f := h) rfl))) (by rfl) ?_
    refine seq_set (.str x) (bin_of (x := N) (y := .int (n / 2 % 6)) rfl (mod_of (fdiv_of rfl con_of (by decide)) con_of (by decide)) ex) (by rfl) ?_
    refine seq_set (.str y) (bin_of (x := N) (y := .int (n / 12 % 6)) rfl (mod_of (fdiv_of rfl con_of (by decide)) con_of (by decide)) ey) (by rfl) ?_
    refine seq_set (.str z) (bin_of (x := N) (y := .int (n / 72 % 6)) rfl (mod_of (fdiv_of rfl con_of (by decide)) con_of (by decide)) ez) (by rfl) e
  by_cases c : n % 2 = 0
  · let ps : Fo := .app f (.app g h)
    have pl : ps.lv = m := by show (Fo.app f (.app g h)).lv = _; rw [Fo.lv_app, Fo.lv_app]
    have pw : ps.ws = f.ws ++ (g.ws ++ h.ws) := by show (Fo.app f (.app g h)).ws = _; rw [Fo.ws_app, Fo.ws_app]
    have pd : ps.ds = [f.hd, g.hd, h.hd] := by show (Fo.app f (.app g h)).ds = _; rw [Fo.ds_app, Fo.ds_app, fd, gd, hd]; rfl
    have po : ps.ok := Fo.ok_app _ _ hf.ok (Fo.ok_app _ _ hg.ok hh.ok)
    refine ⟨.nd sIfW ps .nil, ⟨trivial, ⟨by have e : ps.form = [69, 69, 69] := (by show (Fo.app f (.app g h)).form = _; rw [Fo.form_app, Fo.form_app, ff, fg, fh]; rfl); rw [e]; decide, po, trivial⟩, by simp only [Fo.lv]; omega⟩, by simp [Fo.ws, pw]; omega, mk_rt (r' := R) (s _ ?_)⟩
    refine seq_tt (bl_of (bin_of (mod_of rfl con_of (by decide)) con_of (by rw [eq_int, decide_eq_true c]))) (ret_of ?_)
    rw [itm_nd, pl, pw, pd, List.map_append, List.map_append]
    refine tup_of (cons_of (tup_of (cons_of con_of (cons_of (ix0 (f := f) rfl) (cons_of (ix0 (f := g) rfl) (cons_of (ix0 (f := h) rfl) nil_of)))) (by show 4 ≤ 100; decide)) (cons_of ?_ (cons_of rfl nil_of))) (by show 3 ≤ 100; decide)
    rw [← List.append_assoc]
    exact ladd (l := .str sIfW :: (f.ws.map D.str ++ g.ws.map D.str)) (ladd (l := .str sIfW :: f.ws.map D.str) (ladd (lstF_of (l := [.str sIfW]) (cons_of con_of nil_of) (by show 1 ≤ 100; decide)) (ix1 (f := f) rfl) (by simp; omega)) (ix1 (f := g) rfl) (by simp; omega)) (ix1 (f := h) rfl) (by simp; omega)
  · let ps : Fo := .app f (.nm x (.nm y (.app g (.nm z h))))
    have pl : ps.lv = m := by show (Fo.app f (.nm x (.nm y (.app g (.nm z h))))).lv = _; rw [Fo.lv_app]; simp only [Fo.lv]; rw [Fo.lv_app]; simp only [Fo.lv]; rfl
    have pw : ps.ws = f.ws ++ ([x, y] ++ (g.ws ++ ([z] ++ h.ws))) := by show (Fo.app f (.nm x (.nm y (.app g (.nm z h))))).ws = _; rw [Fo.ws_app]; simp only [Fo.ws]; rw [Fo.ws_app]; simp only [Fo.ws]; rfl
    have pd : ps.ds = [f.hd, .str x, .str y, g.hd, .str z, h.hd] := by show (Fo.app f (.nm x (.nm y (.app g (.nm z h))))).ds = _; rw [Fo.ds_app]; simp only [Fo.ds]; rw [Fo.ds_app]; simp only [Fo.ds]; rw [fd, gd, hd]; rfl
    have po : ps.ok := Fo.ok_app _ _ hf.ok ⟨wx, wy, Fo.ok_app _ _ hg.ok ⟨wz, hh.ok⟩⟩
    refine ⟨.nd sCase ps .nil, ⟨trivial, ⟨by have e : ps.form = [69, 110, 110, 69, 110, 69] := (by show (Fo.app f (.nm x (.nm y (.app g (.nm z h))))).form = _; rw [Fo.form_app]; simp only [Fo.form]; rw [Fo.form_app]; simp only [Fo.form]; rw [ff, fg, fh]; rfl); rw [e]; decide, po, trivial⟩, by simp only [Fo.lv]; omega⟩, by simp [Fo.ws, pw] <;> omega, mk_rt (r' := R.set 10 (.v (.tup [.str sCase, f.hd, .str x, .str y, g.hd, .str z, h.hd]))) (s _ ?_)⟩
    refine seq_ff (bl_of (bin_of (mod_of rfl con_of (by decide)) con_of (by rw [eq_int, decide_eq_false c]))) ?_
    rw [itm_nd, pl, pw, pd]
    refine seq_set (.tup [.str sCase, f.hd, .str x, .str y, g.hd, .str z, h.hd]) ?_ (by rfl) (ret_of ?_)
    · exact tup_of (cons_of con_of (cons_of (ix0 (f := f) rfl) (cons_of rfl (cons_of rfl (cons_of (ix0 (f := g) rfl) (cons_of rfl (cons_of (ix0 (f := h) rfl) nil_of))))))) (by show 7 ≤ 100; decide)
    · refine tup_of (cons_of rfl (cons_of ?_ (cons_of rfl nil_of))) (by show 3 ≤ 100; decide)
      have e : (D.str sCase :: List.map D.str (f.ws ++ ([x, y] ++ (g.ws ++ ([z] ++ h.ws))))) = ((((([D.str sCase] ++ f.ws.map D.str) ++ [.str x, .str y]) ++ g.ws.map D.str) ++ [.str z]) ++ h.ws.map D.str) := by simp
      rw [e]
      exact ladd (ladd (ladd (ladd (ladd (lstF_of (l := [.str sCase]) (cons_of con_of nil_of) (by show 1 ≤ 100; decide)) (ix1 (f := f) rfl) (by simp; omega)) (lstF_of (cons_of rfl (cons_of rfl nil_of)) (by show 2 ≤ 100; decide)) (by simp; omega)) (ix1 (f := g) rfl) (by simp; omega)) (lstF_of (cons_of rfl nil_of) (by show 1 ≤ 100; decide)) (by simp; omega)) (ix1 (f := h) rfl) (by simp; omega)
end K02
namespace K02
open PySem PySem.Spec PyProof.Rows L2 DD
/-! ### the pile grows -/
theorem cut_back {α : Type} (a b : List α) {k : Int} (hk : k = -(b.length : Int)) (h0 : 0 < b.length) : cutL (a ++ b) (some k) none = b ∧ cutL (a ++ b) none (some k) = a := by
  subst hk
  have e : ∀ d, HT.sIx (a ++ b).length d (some (-(b.length : Int))) = a.length := fun d => by
    show (if -(b.length : Int) < 0 then (-(b.length : Int) + ((a ++ b).length : Int)).toNat else _) = _
    rw [if_pos (by omega), List.length_append]
    omega
  constructor
  · unfold cutL
    rw [e, HT.sIx_none, List.drop_left, List.length_append, Nat.add_sub_cancel_left, List.take_length]
  · unfold cutL
    rw [e, HT.sIx_none, List.drop_zero, Nat.sub_zero, List.take_left]
theorem at_back {α : Type} (a b : List α) (x : α) {k : Int} (hk : k = -((b.length : Int) + 1)) : atI (a ++ x :: b) k = some x := by
  have e : ixN (a ++ x :: b).length k = some a.length := by
    unfold ixN
    rw [if_neg (by omega), if_pos (by simp; omega)]
    congr 1
    simp
    omega
  unfold atI
  rw [e]
  simp
theorem comp_lv : ∀ (hs : List Fo) (x : Sl), fre x → compL (setV 0) mTrue (mBin ixD (mVar 0) (mC (.int 2))) (hs.map itm) [x] = some (hs.map fun f => D.int ((f.lv : Int) - 1))
  | [], x, _ => rfl
  | f :: hs, x, hx => by
    have ih := comp_lv hs (.v (itm f)) trivial
    rw [List.map_cons, List.map_cons]; have e1 : setV 0 (itm f) [x] = some [.v (itm f)] := setV_fre (r := [x]) rfl hx
    have e2 : mBin ixD (mVar 0) (mC (.int 2)) [.v (itm f)] = some (.int ((f.lv : Int) - 1)) := ix2 (f := f) rfl
    have e3 : mTrue [.v (itm f)] = some true := rfl
    unfold compL
    rw [e1, Option.bind_some, e3, Option.bind_some, if_pos rfl, e2, Option.bind_some, ih]; rfl
theorem ints_of : ∀ l : List Int, intsD (l.map D.int) = some l
  | [] => rfl
  | i :: l => by simp [intsD, ints_of l]
theorem fold_max : ∀ (t : List Int) (i : Int), (∀ x ∈ i :: t, x ≤ t.foldl max i)
  | [], i, x, h => by simp at h; subst h; exact Int.le_refl _
  | j :: t, i, x, h => by
    have ih := fold_max t (max i j)
    rw [List.foldl_cons]
    simp only [List.mem_cons] at h
    rcases h with rfl | rfl | h
    · exact Int.le_trans (by omega) (ih (max x j) (by simp))
    · exact Int.le_trans (by omega) (ih (max i x) (by simp))
    · exact ih x (by simp [h])
theorem neg_of {g : ME} {r : En} {i : Int} (e : g r = some (.int i)) : mUn negD g r = some (.int (-i)) := un_of e rfl
theorem osome_of {g : ME} {r : En} {i : Int} (e : g r = some (.int i)) : oSome g r = some (some i) := by
  unfold oSome; rw [e]; rfl
theorem cond_back {gs hs : List Fo} {k : Int} {r : En} (hv : mVar 0 r = some (.lst ((gs ++ hs).map itm))) (hk : -k = -(hs.length : Int)) (h0 : 0 < hs.length) (hl : hs.length < 100) :
    ∃ b, mBl (mBin ltD (mMaxL (mComp [] 1 (mIt (mSl (mVar 0) (oSome (mUn negD (mC (.int k)))) oNone)) (setV 0) (mBin ixD (mVar 0) (mC (.int 2))))) (mC (.int 30))) r = some b ∧ (b = true → ∀ h ∈ hs, h.lv ≤ 30) := by
  have sl : mIt (mSl (mVar 0) (oSome (mUn negD (mC (.int k)))) oNone) r = some (hs.map itm) := by
    have e : mSl (mVar 0) (oSome (mUn negD (mC (.int k)))) oNone r = some (.lst (hs.map itm)) := by
      refine sl_of hv (osome_of (neg_of con_of)) (by rfl) ?_
      show some (D.lst (cutL _ _ _)) = _
      rw [List.map_append, (cut_back (gs.map itm) (hs.map itm) (by rw [List.length_map]; exact hk) (by rw [List.length_map]; exact h0)).1]
    unfold mIt
    rw [e]; rfl
  have cm : mComp [] 1 (mIt (mSl (mVar 0) (oSome (mUn negD (mC (.int k)))) oNone)) (setV 0) (mBin ixD (mVar 0) (mC (.int 2))) r = some ((hs.map fun f => (f.lv : Int) - 1).map D.int) := by
    unfold mComp mCompIf
    rw [sl, Option.bind_some, if_pos (by rw [List.length_map]; exact Nat.lt_of_lt_of_le hl (by decide))]
    show compL _ _ _ _ [.un] = _
    rw [comp_lv hs .un trivial, List.map_map]; rfl
  obtain ⟨f, t, rfl⟩ : ∃ f t, hs = f :: t := by
    cases hs with
    | nil => simp at h0
    | cons f t => exact ⟨f, t, rfl⟩
  have mx : mMaxL (mComp [] 1 (mIt (mSl (mVar 0) (oSome (mUn negD (mC (.int k)))) oNone)) (setV 0) (mBin ixD (mVar 0) (mC (.int 2)))) r = some (.int ((t.map fun f => (f.lv : Int) - 1).foldl max ((f.lv : Int) - 1))) := by
    unfold mMaxL
    rw [cm, Option.bind_some, ints_of]; rfl
  refine ⟨_, bl_of (bin_of mx con_of (d := .bl (decide ((t.map fun f => (f.lv : Int) - 1).foldl max ((f.lv : Int) - 1) < 30))) rfl), fun hb h hh => ?_⟩
  have q := of_decide_eq_true hb
  have z := fold_max (t.map fun f => (f.lv : Int) - 1) ((f.lv : Int) - 1) ((h.lv : Int) - 1) (by
    simp only [List.mem_cons] at hh
    rcases hh with rfl | hh
    · simp
    · exact List.mem_cons_of_mem _ (List.mem_map.mpr ⟨h, hh, rfl⟩))
  omega
theorem and_of {c1 c2 : MB} {r : En} {a : Bool} (e1 : c1 r = some a) (e2 : a = true → ∃ b, c2 r = some b) : ∃ b, mAndT c1 c2 r = some b ∧ (b = true → a = true ∧ c2 r = some true) := by
  cases a
  · exact ⟨false, by unfold mAndT; rw [e1]; rfl, fun h => by cases h⟩
  · obtain ⟨b, h⟩ := e2 rfl
    refine ⟨b, by unfold mAndT; rw [e1, Option.bind_some, if_pos rfl, h], fun hb => ⟨rfl, by rw [h, hb]⟩⟩
theorem gt_of {f g : ME} {r : En} {i j : Int} (e1 : f r = some (.int i)) (e2 : g r = some (.int j)) : mBl (mBin gtD f g) r = some (decide (j < i)) := bl_of (bin_of e1 e2 rfl)
theorem split_back {α : Type} (l : List α) (k : Nat) (h : k ≤ l.length) : ∃ a b, l = a ++ b ∧ b.length = k := ⟨l.take (l.length - k), l.drop (l.length - k), (List.take_append_drop _ _).symm, by rw [List.length_drop]; omega⟩
def tw (fs : List Fo) : Nat := (fs.map fun f => f.ws.length).sum
theorem tw_app (a b : List Fo) : tw (a ++ b) = tw a + tw b := by simp [tw]
theorem tw_len : ∀ {fs : List Fo}, (∀ f ∈ fs, Gd f) → fs.length ≤ tw fs
  | [], _ => by simp
  | f :: fs, h => by
    have ih := tw_len (fs := fs) fun g hg => h g (by simp [hg])
    have h1 := Fo.one_ws (h f (by simp)).one
    have h2 : 0 < f.ws.length := List.length_pos_iff.mpr h1
    have e : tw (f :: fs) = f.ws.length + tw fs := by simp [tw]
    rw [e, List.length_cons]; omega
theorem grown_eq {c k : Int} {ns : List (List Nat)} (hn : Nms ns) {fs : List Fo} (hf : ∀ f ∈ fs, Gd f) (ht : tw fs ≤ 900) : ∃ qs : List Fo, (∀ q ∈ qs, Gd q) ∧ qs ≠ [] ∧ tw qs ≤ tw fs + 4 ∧ ∃ as, F__law_grown [.v (.lst (fs.map itm)), .v (.int c), .v (.int k), .v (.lst (ns.map D.str))] = some (.v (.lst (qs.map itm)), as) := by
  let N : D := .lst (ns.map D.str)
  let P : D := .lst (fs.map itm)
  obtain ⟨n, n0, hm⟩ := mixed_eq c (50 + k)
  obtain ⟨m, m0, hm2⟩ := mixed_eq c (250 + k)
  let R : En := [.v P, .v (.int c), .v (.int k), .v N, .v (.int n), .v (.int (m % 9))]
  have hlen := tw_len hf
  have ln : mUn lenD (mVar 0) R = some (.int (fs.length : Int)) := un_of (x := P) rfl (by show some (D.int ((fs.map itm).length : Int)) = _; rw [List.length_map])
  have start : ∀ {h : MS} {z}, h R = z → sSeq (sSet 4 (mCall 2 F__law_mixed (mCons (mVar 1) (mCons (mBin addD (mC (.int 50)) (mVar 2)) mNil)))) (sSeq (sSet 5 (mBin modD (mCall 2 F__law_mixed (mCons (mVar 1) (mCons (mBin addD (mC (.int 250)) (mVar 2)) mNil))) (mC (.int 9)))) h) [.v P, .v (.int c), .v (.int k), .v N, .un, .un] = z := fun {h z} e => by
    refine seq_set (.int n) (call_of (p := .v (.int n)) (cons_of rfl (cons_of (add_of con_of rfl) nil_of)) rfl hm) (by rfl) ?_
    exact seq_set (.int (m % 9)) (mod_of (call_of (p := .v (.int m)) (cons_of rfl (cons_of (add_of con_of rfl) nil_of)) rfl hm2) con_of (by decide)) (by rfl) e
  have fin : ∀ (gs hs : List Fo) (q : Fo) (kk : Int) (e : ME), fs = gs ++ hs → 0 < hs.length → -kk = -(hs.length : Int) → Gd q → e R = some (itm q) → mBin addD (mSl (mVar 0) oNone (oSome (mUn negD (mC (.int kk))))) (mOfF (mLstF (mCons e mNil))) R = some (.lst ((gs ++ [q]).map itm)) := fun gs hs q kk e e1 e2 e3 e4 e5 => by
    have sl : mSl (mVar 0) oNone (oSome (mUn negD (mC (.int kk)))) R = some (.lst (gs.map itm)) := by
      refine sl_of (x := P) rfl (by rfl) (osome_of (neg_of con_of)) ?_
      show some (D.lst (cutL (fs.map itm) _ _)) = _
      rw [e1, List.map_append, (cut_back (gs.map itm) (hs.map itm) (by rw [List.length_map]; exact e3) (by rw [List.length_map]; exact e2)).2]
    rw [List.map_append]
    have : gs.length ≤ fs.length := by rw [e1]; simp
    exact ladd sl (lstF_of (l := [itm q]) (cons_of e5 nil_of) (by show 1 ≤ 100; decide)) (by simp; omega)
  have c1 : ∃ b, mAndT (mBl (mBin gtD (mVar 5) (mC (.int 6)))) (mAndT (mBl (mBin gtD (mUn lenD (mVar 0)) (mC (.int 2)))) (mBl (mBin ltD (mMaxL (mComp [] 1 (mIt (mSl (mVar 0) (oSome (mUn negD (mC (.int 3)))) oNone)) (setV 0) (mBin ixD (mVar 0) (mC (.int 2))))) (mC (.int 30))))) R = some b ∧ (b = true → ∃ gs f1 f2 f3, fs = gs ++ [f1, f2, f3] ∧ f1.lv ≤ 30 ∧ f2.lv ≤ 30 ∧ f3.lv ≤ 30) := by
    have inner : ∃ b, mAndT (mBl (mBin gtD (mUn lenD (mVar 0)) (mC (.int 2)))) (mBl (mBin ltD (mMaxL (mComp [] 1 (mIt (mSl (mVar 0) (oSome (mUn negD (mC (.int 3)))) oNone)) (setV 0) (mBin ixD (mVar 0) (mC (.int 2))))) (mC (.int 30)))) R = some b ∧ (b = true → ∃ gs f1 f2 f3, fs = gs ++ [f1, f2, f3] ∧ f1.lv ≤ 30 ∧ f2.lv ≤ 30 ∧ f3.lv ≤ 30) := by
      by_cases hl : 2 < fs.length
      · obtain ⟨gs, hs, e1, e2⟩ := split_back fs 3 (by omega)
        obtain ⟨b, h1, h2⟩ := cond_back (gs := gs) (hs := hs) (k := 3) (r := R) (by rw [← e1]; rfl) (by rw [e2]; rfl) (by omega) (by omega)
        obtain ⟨b', h3, h4⟩ := and_of (c1 := mBl (mBin gtD (mUn lenD (mVar 0)) (mC (.int 2)))) (gt_of ln con_of) (fun _ => ⟨b, h1⟩)
        refine ⟨b', h3, fun hb => ?_⟩
        have z := (h4 hb).2
        rw [h1] at z
        have zz := h2 (by simpa using z)
        obtain ⟨f1, f2, f3, rfl⟩ : ∃ f1 f2 f3, hs = [f1, f2, f3] := by
          match hs, e2 with
          | [f1, f2, f3], _ => exact ⟨f1, f2, f3, rfl⟩
        exact ⟨gs, f1, f2, f3, e1, zz f1 (by simp), zz f2 (by simp), zz f3 (by simp)⟩
      · refine ⟨false, ?_, fun h => by cases h⟩
        unfold mAndT
        rw [gt_of ln con_of, decide_eq_false (by omega)]; rfl
    obtain ⟨b, h1, h2⟩ := inner
    obtain ⟨b', h3, h4⟩ := and_of (c1 := mBl (mBin gtD (mVar 5) (mC (.int 6)))) (r := R) (gt_of rfl con_of) (fun _ => ⟨b, h1⟩)
    refine ⟨b', h3, fun hb => ?_⟩
    have z := (h4 hb).2
    rw [h1] at z
    exact h2 (by simpa using z)
  have c2 : ∃ b, mAndT (mBl (mBin gtD (mVar 5) (mC (.int 4)))) (mAndT (mBl (mBin gtD (mUn lenD (mVar 0)) (mC (.int 1)))) (mBl (mBin ltD (mMaxL (mComp [] 1 (mIt (mSl (mVar 0) (oSome (mUn negD (mC (.int 2)))) oNone)) (setV 0) (mBin ixD (mVar 0) (mC (.int 2))))) (mC (.int 30))))) R = some b ∧ (b = true → ∃ gs f1 f2, fs = gs ++ [f1, f2] ∧ f1.lv ≤ 30 ∧ f2.lv ≤ 30) := by
    have inner : ∃ b, mAndT (mBl (mBin gtD (mUn lenD (mVar 0)) (mC (.int 1)))) (mBl (mBin ltD (mMaxL (mComp [] 1 (mIt (mSl (mVar 0) (oSome (mUn negD (mC (.int 2)))) oNone)) (setV 0) (mBin ixD (mVar 0) (mC (.int 2))))) (mC (.int 30)))) R = some b ∧ (b = true → ∃ gs f1 f2, fs = gs ++ [f1, f2] ∧ f1.lv ≤ 30 ∧ f2.lv ≤ 30) := by
      by_cases hl : 1 < fs.length
      · obtain ⟨gs, hs, e1, e2⟩ := split_back fs 2 (by omega)
        obtain ⟨b, h1, h2⟩ := cond_back (gs := gs) (hs := hs) (k := 2) (r := R) (by rw [← e1]; rfl) (by rw [e2]; rfl) (by omega) (by omega)
        obtain ⟨b', h3, h4⟩ := and_of (c1 := mBl (mBin gtD (mUn lenD (mVar 0)) (mC (.int 1)))) (gt_of ln con_of) (fun _ => ⟨b, h1⟩)
        refine ⟨b', h3, fun hb => ?_⟩
        have z := (h4 hb).2
        rw [h1] at z
        have zz := h2 (by simpa using z)
        obtain ⟨f1, f2, rfl⟩ : ∃ f1 f2, hs = [f1, f2] := by
          match hs, e2 with
          | [f1, f2], _ => exact ⟨f1, f2, rfl⟩
        exact ⟨gs, f1, f2, e1, zz f1 (by simp), zz f2 (by simp)⟩
      · refine ⟨false, ?_, fun h => by cases h⟩
        unfold mAndT
        rw [gt_of ln con_of, decide_eq_false (by omega)]; rfl
    obtain ⟨b, h1, h2⟩ := inner
    obtain ⟨b', h3, h4⟩ := and_of (c1 := mBl (mBin gtD (mVar 5) (mC (.int 4)))) (r := R) (gt_of rfl con_of) (fun _ => ⟨b, h1⟩)
    refine ⟨b', h3, fun hb => ?_⟩
    have z := (h4 hb).2
    rw [h1] at z
    exact h2 (by simpa using z)
  have last : ∀ gs f, fs = gs ++ [f] → mBin ixD (mVar 0) (mUn negD (mC (.int 1))) R = some (itm f) := fun gs f e => by
    refine bin_of (x := P) (y := .int (-1)) rfl (neg_of con_of) ?_
    show atI (fs.map itm) (-1) = _
    rw [e, List.map_append]
    exact atI_last _ _
  have c3 : ∃ b, mAndT (mBl (mBin gtD (mVar 5) (mC (.int 2)))) (mAndT (mBl (mBin gtD (mUn lenD (mVar 0)) (mC (.int 0)))) (mBl (mBin ltD (mBin ixD (mBin ixD (mVar 0) (mUn negD (mC (.int 1)))) (mC (.int 2))) (mC (.int 30))))) R = some b ∧ (b = true → ∃ gs f1, fs = gs ++ [f1] ∧ f1.lv ≤ 30) := by
    have inner : ∃ b, mAndT (mBl (mBin gtD (mUn lenD (mVar 0)) (mC (.int 0)))) (mBl (mBin ltD (mBin ixD (mBin ixD (mVar 0) (mUn negD (mC (.int 1)))) (mC (.int 2))) (mC (.int 30)))) R = some b ∧ (b = true → ∃ gs f1, fs = gs ++ [f1] ∧ f1.lv ≤ 30) := by
      by_cases hl : 0 < fs.length
      · obtain ⟨gs, hs, e1, e2⟩ := split_back fs 1 (by omega)
        obtain ⟨f1, rfl⟩ : ∃ f1, hs = [f1] := by
          match hs, e2 with
          | [f1], _ => exact ⟨f1, rfl⟩
        have h1 : mBl (mBin ltD (mBin ixD (mBin ixD (mVar 0) (mUn negD (mC (.int 1)))) (mC (.int 2))) (mC (.int 30))) R = some (decide ((f1.lv : Int) - 1 < 30)) := bl_of (bin_of (ix2 (last gs f1 e1)) con_of rfl)
        obtain ⟨b', h3, h4⟩ := and_of (c1 := mBl (mBin gtD (mUn lenD (mVar 0)) (mC (.int 0)))) (gt_of ln con_of) (fun _ => ⟨_, h1⟩)
        refine ⟨b', h3, fun hb => ?_⟩
        have z := (h4 hb).2
        rw [h1] at z
        have zz : (f1.lv : Int) - 1 < 30 := by simpa using z
        exact ⟨gs, f1, e1, by omega⟩
      · refine ⟨false, ?_, fun h => by cases h⟩
        unfold mAndT
        rw [gt_of ln con_of, decide_eq_false (by omega)]; rfl
    obtain ⟨b, h1, h2⟩ := inner
    obtain ⟨b', h3, h4⟩ := and_of (c1 := mBl (mBin gtD (mVar 5) (mC (.int 2)))) (r := R) (gt_of rfl con_of) (fun _ => ⟨b, h1⟩)
    refine ⟨b', h3, fun hb => ?_⟩
    have z := (h4 hb).2
    rw [h1] at z
    exact h2 (by simpa using z)
  have gdq : ∀ (gs hs : List Fo) (q : Fo), fs = gs ++ hs → Gd q → ∀ x ∈ gs ++ [q], Gd x := fun gs hs q e hq x hx => by
    simp only [List.mem_append, List.mem_singleton] at hx
    rcases hx with hx | rfl
    · exact hf x (by rw [e]; simp [hx])
    · exact hq
  obtain ⟨b1, k1, p1⟩ := c1
  cases b1
  rotate_left
  · obtain ⟨gs, f1, f2, f3, e, v1, v2, v3⟩ := p1 rfl
    have te : tw fs = tw gs + (f1.ws.length + f2.ws.length + f3.ws.length) := by rw [e, tw_app]; simp [tw]; omega
    obtain ⟨q, gq, wq, eq⟩ := three_eq (n := n) hn (hf f1 (by rw [e]; simp)) (hf f2 (by rw [e]; simp)) (hf f3 (by rw [e]; simp)) v1 v2 v3 (by omega)
    refine ⟨gs ++ [q], gdq gs _ q e gq, by simp, by rw [tw_app, te]; simp [tw]; omega, mk_rt (r' := R) (start (seq_tt k1 (ret_of (fin gs [f1, f2, f3] q 3 _ e (by simp) rfl gq ?_))))⟩
    refine call_of (p := .v (itm q)) (cons_of rfl (cons_of rfl (cons_of (sl_of (x := P) (d := .lst [itm f1, itm f2, itm f3]) rfl (osome_of (neg_of con_of)) (by rfl) ?_) nil_of))) rfl eq
    show some (D.lst (cutL (fs.map itm) _ _)) = _
    rw [e, List.map_append, (cut_back (gs.map itm) ([f1, f2, f3].map itm) (k := -3) rfl (by simp)).1]; rfl
  obtain ⟨b2, k2, p2⟩ := c2
  cases b2
  rotate_left
  · obtain ⟨gs, f1, f2, e, v1, v2⟩ := p2 rfl
    have te : tw fs = tw gs + (f1.ws.length + f2.ws.length) := by rw [e, tw_app]; simp [tw]
    obtain ⟨q, gq, wq, eq⟩ := two_eq (n := n) hn (hf f1 (by rw [e]; simp)) (hf f2 (by rw [e]; simp)) v1 v2 (by omega)
    refine ⟨gs ++ [q], gdq gs _ q e gq, by simp, by rw [tw_app, te]; simp [tw]; omega, mk_rt (r' := R) (start (seq_ff k1 (seq_tt k2 (ret_of (fin gs [f1, f2] q 2 _ e (by simp) rfl gq ?_)))))⟩
    refine call_of (p := .v (itm q)) (cons_of rfl (cons_of rfl (cons_of (x := itm f1) (bin_of (x := P) (y := .int (-2)) rfl (neg_of con_of) ?_) (cons_of (last (gs ++ [f1]) f2 (by rw [e]; simp)) nil_of)))) rfl eq
    show atI (fs.map itm) (-2) = _
    rw [e, List.map_append]
    exact at_back (gs.map itm) [itm f2] (itm f1) rfl
  obtain ⟨b3, k3, p3⟩ := c3
  cases b3
  rotate_left
  · obtain ⟨gs, f1, e, v1⟩ := p3 rfl
    have te : tw fs = tw gs + f1.ws.length := by rw [e, tw_app]; simp [tw]
    obtain ⟨q, gq, wq, eq⟩ := one_eq (n := n) hn (hf f1 (by rw [e]; simp)) v1 (by omega)
    refine ⟨gs ++ [q], gdq gs _ q e gq, by simp, by rw [tw_app, te]; simp [tw]; omega, mk_rt (r' := R) (start (seq_ff k1 (seq_ff k2 (seq_tt k3 (ret_of (fin gs [f1] q 1 _ e (by simp) rfl gq ?_))))))⟩
    exact call_of (p := .v (itm q)) (cons_of rfl (cons_of rfl (cons_of (last gs f1 e) nil_of))) rfl eq
  · obtain ⟨q, gq, wq, eq⟩ := leaf_eq (c := c) (n := n) hn
    refine ⟨fs ++ [q], gdq fs [] q (by simp) gq, by simp, by rw [tw_app]; simp [tw]; omega, mk_rt (r' := R) (start (seq_ff k1 (seq_ff k2 (seq_ff k3 (ret_of ?_)))))⟩
    rw [List.map_append]
    refine ladd (l := fs.map itm) rfl (lstF_of (l := [itm q]) (cons_of (x := itm q) ?_ nil_of) (by show 1 ≤ 100; decide)) (by simp; omega)
    exact call_of (p := .v (itm q)) (cons_of rfl (cons_of rfl (cons_of rfl nil_of))) rfl eq
/-! ### the law -/
theorem cell_eq (ns : List Int) : ∃ c : Int, ∃ as, F__law_cell [.v (.lst (ns.map D.int)), .v (.int 0)] = some (.v (.int c), as) := by
  have ln : mUn lenD (mVar 0) [.v (.lst (ns.map D.int)), .v (.int 0)] = some (.int (ns.length : Int)) := un_of rfl (by show some (D.int ((ns.map D.int).length : Int)) = _; rw [List.length_map])
  by_cases h : (0 : Int) < (ns.length : Int)
  · obtain ⟨c, t, rfl⟩ : ∃ c t, ns = c :: t := by
      cases ns with
      | nil => simp at h
      | cons c t => exact ⟨c, t, rfl⟩
    refine ⟨c, mk_rt (r' := [.v (.lst ((c :: t).map D.int)), .v (.int 0)]) ?_⟩
    refine seq_tt (bl_of (bin_of (x := .int 0) rfl ln (by show some (D.bl (decide ((0 : Int) < _))) = _; rw [decide_eq_true h]))) (ret_of (bin_of rfl rfl ?_))
    exact at_zero _ _
  · refine ⟨0, mk_rt (r' := [.v (.lst (ns.map D.int)), .v (.int 0)]) ?_⟩
    exact seq_ff (bl_of (bin_of (x := .int 0) rfl ln (by show some (D.bl (decide ((0 : Int) < _))) = _; rw [decide_eq_false h]))) (ret_of rfl)
def bodyG : MS := (sSet 3 (mCall 4 F__law_grown (mCons (mVar 3) (mCons (mVar 5) (mCons (mVar 4) (mCons (mVar 2) mNil))))))
theorem law_grow {ns : List (List Nat)} (hn : Nms ns) {S C : D} : ∀ (L : List D) (fs : List Fo) (x y : Sl), (∀ d ∈ L, ∃ k c, d = .tup [.int k, .int c]) → (∀ f ∈ fs, Gd f) → fs ≠ [] → tw fs + 4 * L.length ≤ 400 → fre x → fre y → ∃ (qs : List Fo) (x' y' : Sl), (∀ q ∈ qs, Gd q) ∧ tw qs ≤ 400 ∧ qs ≠ [] ∧ forL (bdSeq 2 (bdCons (setV 4) (bdCons (setV 5) bdNil))) bodyG L [.v S, .v C, .v (.lst (ns.map D.str)), .v (.lst (fs.map itm)), x, y, .un, .un, .un, .un] = some (.nx [.v S, .v C, .v (.lst (ns.map D.str)), .v (.lst (qs.map itm)), x', y', .un, .un, .un, .un])
  | [], fs, x, y, _, hf, h0, ht, _, _ => ⟨fs, x, y, hf, by simp at ht; exact ht, h0, rfl⟩
  | d :: L, fs, x, y, hL, hf, h0, ht, hx, hy => by
    obtain ⟨k, c, rfl⟩ := hL d (by simp)
    rw [List.length_cons] at ht
    obtain ⟨gs, g1, g0, g2, g3⟩ := grown_eq (c := c) (k := k) hn hf (by omega)
    obtain ⟨qs, x', y', q1, q2, q0, q3⟩ := law_grow hn (S := S) (C := C) L gs (.v (.int k)) (.v (.int c)) (fun e he => hL e (by simp [he])) g1 g0 (by omega) trivial trivial
    refine ⟨qs, x', y', q1, q2, q0, ?_⟩
    have b1 : bdSeq 2 (bdCons (setV 4) (bdCons (setV 5) bdNil)) (.tup [.int k, .int c]) [.v S, .v C, .v (.lst (ns.map D.str)), .v (.lst (fs.map itm)), x, y, .un, .un, .un, .un] = some [.v S, .v C, .v (.lst (ns.map D.str)), .v (.lst (fs.map itm)), .v (.int k), .v (.int c), .un, .un, .un, .un] := by
      cases x <;> first | (cases hx; done) | skip
      all_goals cases y <;> first | (cases hy; done) | rfl
    have b2 : bodyG [.v S, .v C, .v (.lst (ns.map D.str)), .v (.lst (fs.map itm)), .v (.int k), .v (.int c), .un, .un, .un, .un] = some (.nx [.v S, .v C, .v (.lst (ns.map D.str)), .v (.lst (gs.map itm)), .v (.int k), .v (.int c), .un, .un, .un, .un]) :=
      sSet_of (call_of (p := .v (.lst (gs.map itm))) (cons_of rfl (cons_of rfl (cons_of rfl (cons_of rfl nil_of)))) rfl g3) (by rfl)
    rw [for_go b1 b2, q3]
end K02
namespace K02
open PySem PySem.Spec PyProof.Rows L2 DD
/-! ### names and numbers -/
theorem lt1 (a b : Nat) : ([a] < [b]) ↔ a < b := by
  rw [List.cons_lt_cons_iff]
  constructor
  · rintro (h | ⟨_, h⟩)
    · exact h
    · exact absurd h (by simp)
  · exact .inl
theorem flat_strs : ∀ l : List (List Nat), (l.map D.str).all flatD = true
  | [] => rfl
  | s :: l => by simp [flatD]
theorem chain_of {m m' : D → D → Option D} {f g h : ME} {r : En} {x y z : D} {k : Bool} (e1 : f r = some x) (e2 : g r = some y) (ek : m x y = some (.bl k)) (e3 : h r = some z) : mChain m m' f g h r = if k = true then m' y z else some (.bl false) := by
  unfold mChain
  rw [e1, Option.bind_some, e2, Option.bind_some, ek, Option.bind_some]
  cases k
  · rfl
  · simp only [e3, Option.bind_some, if_true]
def btw (lo hi c : Nat) : Bool := decide (lo ≤ c) && decide (c ≤ hi)
theorem chain_btw {lo hi c : Nat} : mChain leA leA (mVar 0) (mVar 2) (mVar 1) [.v (.str [lo]), .v (.str [hi]), .v (.str [c])] = some (.bl (btw lo hi c)) := by
  have e1 : leA (.str [lo]) (.str [c]) = some (.bl (decide (lo ≤ c))) := by
    show some (D.bl (!decide ([c] < [lo]))) = _
    congr 2
    rw [decide_eq_decide.mpr (lt1 c lo)]
    by_cases h : lo ≤ c
    · rw [decide_eq_true h, decide_eq_false (by omega)]; rfl
    · rw [decide_eq_false h, decide_eq_true (by omega)]; rfl
  have e2 : leA (.str [c]) (.str [hi]) = some (.bl (decide (c ≤ hi))) := by
    show some (D.bl (!decide ([hi] < [c]))) = _
    congr 2
    rw [decide_eq_decide.mpr (lt1 hi c)]
    by_cases h : c ≤ hi
    · rw [decide_eq_true h, decide_eq_false (by omega)]; rfl
    · rw [decide_eq_false h, decide_eq_true (by omega)]; rfl
  rw [chain_of (x := .str [lo]) (y := .str [c]) (z := .str [hi]) rfl rfl e1 rfl, e2]
  unfold btw
  by_cases h : lo ≤ c
  · rw [decide_eq_true h, Bool.true_and, if_pos rfl]
  · rw [decide_eq_false h, Bool.false_and, if_neg (by simp)]
theorem comp_btw (lo hi : Nat) : ∀ (s : List Nat) (x : Sl), fre x → compL (setV 2) mTrue (mChain leA leA (mVar 0) (mVar 2) (mVar 1)) (s.map fun c => .str [c]) [.v (.str [lo]), .v (.str [hi]), x] = some ((s.map (btw lo hi)).map D.bl)
  | [], x, _ => rfl
  | c :: s, x, hx => by
    have ih := comp_btw lo hi s (.v (.str [c])) trivial
    have e1 : setV 2 (.str [c]) [.v (.str [lo]), .v (.str [hi]), x] = some [.v (.str [lo]), .v (.str [hi]), .v (.str [c])] := setV_fre (x := x) rfl hx
    have e3 : mTrue [.v (.str [lo]), .v (.str [hi]), .v (.str [c])] = some true := rfl
    rw [List.map_cons, List.map_cons, List.map_cons]; unfold compL
    rw [e1, Option.bind_some, e3, Option.bind_some, if_pos rfl, chain_btw, Option.bind_some, ih]; rfl
theorem bls_of : ∀ l : List Bool, blsD (l.map D.bl) = some l
  | [] => rfl
  | i :: l => by simp [blsD, bls_of l]
theorem between_eq (s : List Nat) (lo hi : Nat) (hl : s.length < 1000) : ∃ as, F_all_between [.v (.str s), .v (.str [lo]), .v (.str [hi])] = some (.v (.bl (s.all (btw lo hi))), as) := by
  refine mk_rt (r' := [.v (.str s), .v (.str [lo]), .v (.str [hi])]) (ret_of ?_)
  have e : mComp [1, 2] 3 (mItS (mVar 0)) (setV 2) (mChain leA leA (mVar 0) (mVar 2) (mVar 1)) [.v (.str s), .v (.str [lo]), .v (.str [hi])] = some ((s.map (btw lo hi)).map D.bl) := by
    show (if (s.map fun c => D.str [c]).length < sizeLine then compL _ _ _ (s.map fun c => D.str [c]) [.v (.str [lo]), .v (.str [hi]), .un] else none) = _
    rw [if_pos (by rw [List.length_map]; exact Nat.lt_trans hl (by decide)), comp_btw lo hi s .un trivial]
  unfold mAll
  show (mComp [1, 2] 3 (mItS (mVar 0)) (setV 2) (mChain leA leA (mVar 0) (mVar 2) (mVar 1)) [.v (.str s), .v (.str [lo]), .v (.str [hi])]).bind _ = _
  rw [e, Option.bind_some, bls_of, Option.map_some, List.all_map]; rfl
theorem len_chain {s : List Nat} {k : Int} {n : Nat} (h1 : 1 ≤ s.length) (h2 : s.length ≤ n) (hk : k = n) (hn : n ≤ 100) : mChain leA leA (mC (.int 1)) (mUn lenD (mVar 0)) (mC (.int k)) [.v (.str s)] = some (.bl true) := by
  subst hk
  have e0 : mUn lenD (mVar 0) [.v (.str s)] = some (.int s.length) := by
    show (if s.length ≤ sizeLine then some (D.int s.length) else none) = _
    rw [if_pos (Nat.le_trans (Nat.le_trans h2 hn) (by decide))]
  have e1 : leA (.int 1) (.int s.length) = some (.bl true) := by
    show some (D.bl (decide ((1 : Int) ≤ s.length))) = _; rw [decide_eq_true (by omega)]
  rw [chain_of (x := .int 1) (z := .int (n : Int)) con_of e0 e1 con_of, if_pos rfl]
  show some (D.bl (decide ((s.length : Int) ≤ (n : Int)))) = _; rw [decide_eq_true (by omega)]
theorem and_t {f g : ME} {r : En} {d : D} (e1 : f r = some (.bl true)) (e2 : g r = some d) : mAnd f g r = some d := by
  unfold mAnd; rw [e1]; exact e2
theorem and_f {f g : ME} {r : En} (e1 : f r = some (.bl false)) : mAnd f g r = some (.bl false) := by
  unfold mAnd; rw [e1]; rfl
theorem name_yes {x : List Nat} (h : Fo.nmok x) : ∃ as, F_is_name [.v (.str x)] = some (.v (.bl true), as) := by
  obtain ⟨h1, h2, h3, h4⟩ := h
  refine mk_rt (r' := [.v (.str x)]) (ret_of (and_t (len_chain h2 h3 rfl (by decide)) (and_t (d := .bl true) ?_ ?_)))
  · have e : x.all (btw 97 122) = true := by
      rw [List.all_eq_true]
      intro c hc
      have := h1 c hc
      unfold btw
      simp only [decide_eq_true_eq, Bool.and_eq_true]
      exact this
    have q := between_eq x 97 122 (by omega)
    rw [e] at q
    exact call_of (p := .v (.bl true)) (cons_of rfl (cons_of con_of (cons_of con_of nil_of))) rfl q
  · refine bin_of (x := .str x) (y := .tup (C_KEPT_WORDS.map D.str)) rfl con_of ?_
    show (if flatD (.str x) = true ∧ (C_KEPT_WORDS.map D.str).all flatD = true then some (D.bl (!((C_KEPT_WORDS.map D.str).any fun z => eqF z (.str x)))) else none) = _
    rw [if_pos ⟨rfl, flat_strs _⟩, any_eq, decide_eq_false h4]; rfl
theorem name_no {s : List Nat} (h1 : 1 ≤ s.length) (h2 : s.length ≤ 8) (h3 : ∀ c ∈ s, 48 ≤ c ∧ c ≤ 57) : ∃ as, F_is_name [.v (.str s)] = some (.v (.bl false), as) := by
  refine mk_rt (r' := [.v (.str s)]) (ret_of (and_t (len_chain h1 h2 rfl (by decide)) (and_f ?_)))
  have e : s.all (btw 97 122) = false := by
    cases s with
    | nil => simp at h1
    | cons c r =>
      have := h3 c (by simp)
      rw [List.all_cons]
      have : btw 97 122 c = false := by unfold btw; rw [decide_eq_false (by omega)]; rfl
      rw [this]; rfl
  have q := between_eq s 97 122 (by omega)
  rw [e] at q
  exact call_of (p := .v (.bl false)) (cons_of rfl (cons_of con_of (cons_of con_of nil_of))) rfl q
/-! #### the figures of a number -/
theorem intC_digits (n : Nat) : ∀ c ∈ intC (n : Int), 48 ≤ c ∧ c ≤ 57 := by
  rw [intC_nat]
  intro c hc
  obtain ⟨d, hd, rfl⟩ := List.mem_map.mp hc
  have q := Nat.isDigit_of_mem_toDigits (by decide) (by decide) hd
  simp only [Char.isDigit, Bool.and_eq_true, decide_eq_true_eq] at q
  exact ⟨UInt32.le_iff_toNat_le.mp q.1, UInt32.le_iff_toNat_le.mp q.2⟩
theorem intC_pos (n : Nat) : 1 ≤ (intC (n : Int)).length := by
  rw [intC_nat, List.length_map]; exact Nat.length_toDigits_pos
theorem intC_len6 {n : Nat} (h : n < 10 ^ 6) : (intC (n : Int)).length ≤ 6 := by
  rw [intC_nat, List.length_map]
  exact (Nat.length_toDigits_le_iff (by decide) (by decide)).mpr h
theorem fold_eq : ∀ (l : List Char) (a : Nat), (l.map Char.toNat).foldl (fun acc c => acc * 10 + (c - 48)) a = l.foldl (fun sofar c => 10 * sofar + (c.toNat - '0'.toNat)) a
  | [], a => rfl
  | c :: l, a => by
    rw [List.map_cons, List.foldl_cons, List.foldl_cons, Nat.mul_comm a 10]
    exact fold_eq l _
theorem intC_val (n : Nat) : PySem.NumText.digitsVal (intC (n : Int)) = n := by
  rw [intC_nat]
  unfold PySem.NumText.digitsVal
  rw [fold_eq]
  exact Nat.ofDigitChars_ten_toDigits
theorem fold_lt : ∀ (l : List Nat) (a : Nat), (∀ c ∈ l, 48 ≤ c ∧ c ≤ 57) → l.foldl (fun acc c => acc * 10 + (c - 48)) a < (a + 1) * 10 ^ l.length
  | [], a, _ => by simp
  | c :: l, a, h => by
    have hc := h c (by simp)
    have ih := fold_lt l (a * 10 + (c - 48)) fun d hd => h d (by simp [hd])
    rw [List.length_cons, List.foldl_cons]
    refine Nat.lt_of_lt_of_le ih ?_
    have e : 10 ^ (l.length + 1) = 10 * 10 ^ l.length := by rw [Nat.pow_succ, Nat.mul_comm]
    rw [e, ← Nat.mul_assoc]
    exact Nat.mul_le_mul_right (10 ^ l.length) (by omega)
theorem intC_head {n : Nat} {r : List Nat} (e : intC (n : Int) = 48 :: r) : r = [] := by
  by_cases h : r = []
  · exact h
  · exfalso
    have v := intC_val n
    have dg := intC_digits n
    rw [e] at v dg
    have v2 : PySem.NumText.digitsVal r = n := v
    have b := fold_lt r 0 fun c hc => dg c (by simp [hc])
    have b2 : n < 10 ^ r.length := by
      rw [← v2]
      show r.foldl (fun acc c => acc * 10 + (c - 48)) 0 < _
      simpa using b
    have l := congrArg List.length e
    rw [intC_nat, List.length_map, List.length_cons] at l
    have := (Nat.length_toDigits_le_iff (b := 10) (n := n) (k := r.length) (by decide) (List.length_pos_iff.mpr h)).mpr b2
    omega
theorem num_yes {n : Nat} (h : n < 10 ^ 6) : ∃ as, F_is_number [.v (.str (intC n))] = some (.v (.bl true), as) := by
  have d := intC_digits n
  have l1 := intC_pos n
  have l6 := intC_len6 h
  have hv := @intC_head n
  generalize intC (n : Int) = s at *
  refine mk_rt (r' := [.v (.str s)]) ?_
  show g_is_number [.v (.str s)] = _
  have e : s.all (btw 48 57) = true := by
    rw [List.all_eq_true]
    intro c hc
    have := d c hc
    unfold btw
    simp only [decide_eq_true_eq, Bool.and_eq_true]
    exact this
  have q := between_eq s 48 57 (by omega)
  rw [e] at q
  have c0 : mOrT (mNotT (mBl (mChain leA leA (mC (.int 1)) (mUn lenD (mVar 0)) (mC (.int 6))))) (mNotT (mTru (mCall 3 F_all_between (mCons (mVar 0) (mCons (mC (.str [48])) (mCons (mC (.str [57])) mNil)))))) [.v (.str s)] = some false := by
    have a1 : mNotT (mBl (mChain leA leA (mC (.int 1)) (mUn lenD (mVar 0)) (mC (.int 6)))) [.v (.str s)] = some false := by
      unfold mNotT; rw [bl_of (len_chain (k := 6) (n := 6) l1 l6 rfl (by decide))]; rfl
    have a0 : mCall 3 F_all_between (mCons (mVar 0) (mCons (mC (.str [48])) (mCons (mC (.str [57])) mNil))) [.v (.str s)] = some (.bl true) := call_of (p := .v (.bl true)) (cons_of rfl (cons_of con_of (cons_of con_of nil_of))) rfl q
    have a2 : mNotT (mTru (mCall 3 F_all_between (mCons (mVar 0) (mCons (mC (.str [48])) (mCons (mC (.str [57])) mNil))))) [.v (.str s)] = some false := by
      unfold mNotT mTru; rw [a0]; rfl
    unfold mOrT
    rw [a1, Option.bind_some, if_neg (by simp), a2]
  refine seq_ff c0 (ret_of ?_)
  have c1 : mBin eqA (mVar 0) (mC (.str [48])) [.v (.str s)] = some (.bl (decide (s = [48]))) := bin_of rfl con_of rfl
  unfold mOr
  rw [c1]
  by_cases hz : s = [48]
  · rw [decide_eq_true hz]; rfl
  · rw [decide_eq_false hz]
    show mBin neA (mBin ixD (mVar 0) (mC (.int 0))) (mC (.str [48])) [.v (.str s)] = _
    cases s with
    | nil => simp at l1
    | cons c r =>
      refine bin_of (x := .str [c]) (bin_of rfl con_of ?_) con_of ?_
      · show (if (c :: r).length ≤ sizeLine then (atI (c :: r) 0).map fun c => D.str [c] else none) = _
        rw [if_pos (Nat.le_trans l6 (by decide)), at_zero]; rfl
      · show some (D.bl (!decide ([c] = [48]))) = _
        rw [decide_eq_false (fun z => ?_)]
        · rfl
        · simp at z
          subst z
          exact hz (by rw [hv rfl])
theorem rnum_eq {n : Nat} (h : n < 10 ^ 6) : ∃ as, F_read_number [.v (.str (intC n))] = some (.v (.int n), as) := by
  refine mk_rt (r' := [.v (.str (intC n))]) ?_
  have a0 : mCall 1 F_is_number (mCons (mVar 0) mNil) [.v (.str (intC n))] = some (.bl true) := call_of (p := .v (.bl true)) (cons_of rfl nil_of) rfl (num_yes h)
  show g_read_number [.v (.str (intC n))] = _
  refine seq_ff (by unfold mNotT mTru; rw [a0]; rfl) (ret_of (un_of rfl ?_))
  have q := intC_digits n
  have l1 := intC_pos n
  have l6 := intC_len6 h
  show (if intC n ≠ [] ∧ (intC n).length ≤ 600 ∧ ((intC n).all fun c => decide (48 ≤ c) && decide (c ≤ 57)) = true then some (D.int (PySem.NumText.digitsVal (intC n) : Nat)) else none) = _
  rw [if_pos ⟨fun z => by rw [z] at l1; simp at l1, by omega, by rw [List.all_eq_true]; intro c hc; have := q c hc; simp only [Bool.and_eq_true, decide_eq_true_eq]; exact this⟩, intC_val]
/-! ### words that wait -/
theorem popP_of {i : Nat} {r : En} {S : List D} {d : D} (e : r[i]? = some (.p (S ++ [d]))) : mPop i r = some (d, r.set i (.p S)) := by
  simp [mPop, mtOf, e, Sl.mt, putO]
theorem word_eq (S : List D) (d : D) : F_take_word [.p (S ++ [d])] = some (.v d, [.p S]) := by
  unfold F_take_word mkF g_take_word
  have c : mNotT (mTruB (mOwn 0)) [.p (S ++ [d])] = some false := by
    show some (!(!(S ++ [d]).isEmpty)) = _
    simp
  show (sSeq _ _ [.p (S ++ [d])]).bind _ = _
  rw [seq_ff (z := some (.rt d [.p S])) c ?_]
  · rfl
  · unfold sRetX
    rw [popP_of (r := [.p (S ++ [d])]) (S := S) rfl]; rfl
theorem callP_of {n i : Nat} {m : MF} {z : MZ} {r : En} {L L' es : List D} {d : D} {as : List Sl} (hr : r[i]? = some (.p L)) (hz : z r = some ([], es)) (hn : 1 + es.length = n) (hm : m (.p L :: es.map .v) = some (.v d, as)) (ha : as[0]? = some (.p L')) : mCallX n m i z r = some (d, r.set i (.p L')) := by
  unfold mCallX mtOf
  rw [hr]
  show (z r).bind _ = _
  rw [hz, Option.bind_some]
  simp only [List.length_nil]
  rw [if_pos (by omega)]
  show (m (.p L :: es.map .v)).bind _ = _
  rw [hm, Option.bind_some]
  simp only [ha, putO, hr]
  rfl
theorem callO_of {n i : Nat} {m : MF} {z : MZ} {r : En} {L L' es : List D} {d : D} {as : List Sl} (hr : r[i]? = some (.o L)) (hz : z r = some ([], es)) (hn : 1 + es.length = n) (hm : m (.p L :: es.map .v) = some (.v d, as)) (ha : as[0]? = some (.p L')) : mCallX n m i z r = some (d, r.set i (.o L')) := by
  unfold mCallX mtOf
  rw [hr]
  show (z r).bind _ = _
  rw [hz, Option.bind_some]
  simp only [List.length_nil]
  rw [if_pos (by omega)]
  show (m (.p L :: es.map .v)).bind _ = _
  rw [hm, Option.bind_some]
  simp only [ha, putO, hr]
  rfl
theorem tname_eq {x : List Nat} (h : Fo.nmok x) (S : List D) : F_take_name [.p (S ++ [.str x])] = some (.v (.str x), [.p S]) := by
  unfold F_take_name mkF g_take_name
  show (sSeq _ _ [.p (S ++ [.str x]), .un]).bind _ = _
  have st : sSetX 1 (mCallX 1 F_take_word 0 (zP mNil)) [.p (S ++ [.str x]), .un] = some (.nx [.p S, .v (.str x)]) := sSetX_of (callP_of (L := S ++ [.str x]) (L' := S) (es := []) rfl rfl rfl (word_eq S (.str x)) rfl) (by rfl)
  rw [seq_of st]
  have a0 : mCall 1 F_is_name (mCons (mVar 1) mNil) [.p S, .v (.str x)] = some (.bl true) := call_of (p := .v (.bl true)) (cons_of rfl nil_of) rfl (name_yes h)
  rw [seq_ff (z := some (.rt (.str x) [.p S, .v (.str x)])) (by unfold mNotT mTru; rw [a0]; rfl) rfl]
  rfl
theorem leaf_nam {x : List Nat} (h : Fo.nmok x) : ∃ as, F_read_leaf [.v (.str x)] = some (.v (.tup [.str sNam, .str x]), as) := by
  refine mk_rt (r' := [.v (.str x)]) ?_
  have a0 : mCall 1 F_is_name (mCons (mVar 0) mNil) [.v (.str x)] = some (.bl true) := call_of (p := .v (.bl true)) (cons_of rfl nil_of) rfl (name_yes h)
  show g_read_leaf [.v (.str x)] = _
  exact seq_tt (by unfold mTru; rw [a0]; rfl) (ret_of (tup_of (cons_of con_of (cons_of rfl nil_of)) (by show 2 ≤ 100; decide)))
theorem leaf_num {n : Nat} (h : n < 10 ^ 6) : ∃ as, F_read_leaf [.v (.str (intC n))] = some (.v (.tup [.str sNum, .int n]), as) := by
  refine mk_rt (r' := [.v (.str (intC n))]) ?_
  have a0 : mCall 1 F_is_name (mCons (mVar 0) mNil) [.v (.str (intC n))] = some (.bl false) := call_of (p := .v (.bl false)) (cons_of rfl nil_of) rfl (name_no (intC_pos n) (Nat.le_trans (intC_len6 h) (by decide)) (intC_digits n))
  show g_read_leaf [.v (.str (intC n))] = _
  exact seq_ff (by unfold mTru; rw [a0]; rfl) (ret_of (tup_of (cons_of con_of (cons_of (call_of (p := .v (.int n)) (cons_of rfl nil_of) rfl (rnum_eq h)) nil_of)) (by show 2 ≤ 100; decide)))
theorem look_none {tbl : List (List Nat × List Nat)} {s : List Nat} (h : ∀ q ∈ tbl, q.1 ≠ s) : look tbl s = none := by
  unfold look
  rw [List.find?_eq_none.mpr fun q hq => by simpa using h q hq]; rfl
theorem forms_keys : ∀ q ∈ C_FORMS, (q.1 ∈ C_KEPT_WORDS ∨ ∃ c ∈ q.1, c < 97) ∧ ∀ c ∈ q.1, ¬ (48 ≤ c ∧ c ≤ 57) := by decide
theorem look_nam {x : List Nat} (h : Fo.nmok x) : look C_FORMS x = none := look_none fun q hq z => by
  subst z
  rcases (forms_keys q hq).1 with k | ⟨c, hc, lt⟩
  · exact h.2.2.2 k
  · have := h.1 c hc; omega
theorem look_num (n : Nat) : look C_FORMS (intC n) = none := look_none fun q hq z => by
  have d := intC_digits n
  have l := intC_pos n
  rw [← z] at d l
  cases hc : q.1 with
  | nil => rw [hc] at l; simp at l
  | cons c r => exact (forms_keys q hq).2 c (by rw [hc]; simp) (d c (by rw [hc]; simp))
end K02
namespace K02
open PySem PySem.Spec PyProof.Rows L2 DD
/-! ### an expression is read from the words that wait -/
def wt (f : Fo) : List D := (f.ws.map D.str).reverse
def TkOk (m : MF) (k : Nat) : Prop := ∀ (s : Fo), s.one → s.ok → s.lv ≤ k → ∀ d, s.ds = [d] → ∀ (b : Nat) (S : List D), b + s.lv ≤ 31 → s.ws.length < 100000 → ∃ u, m [.p (S ++ wt s), .v (.int b)] = some (.v d, [.p S, u])
def bodyT (m : MF) : MS := (sIf (mBl (mBin eqA (mVar 4) (mC (.str [110]))))
 (sX (mAppX 3 (mCallX 1 F_take_name 0 (zP mNil))))
 (sX (mAppX 3 (mCallX 2 m 0 (zP (mCons (mBin addD (mVar 1) (mC (.int 1))) mNil))))))
theorem appX_of {i : Nat} {f : En → Option (D × En)} {r r1 : En} {S S0 : List D} {d : D} {x : Sl} (e0 : r[i]? = some (.o S0)) (e : f r = some (d, r1)) (e1 : r1[i]? = some (.o S)) (h : S.length < sizeLine) : mAppX i f r = some (.non, r1.set i (.o (S ++ [d]))) := by
  unfold mAppX
  rw [e, Option.bind_some]
  simp [mtOf, e0, e1, Sl.mt, putO, h]
theorem wt_cons_nm (x : List Nat) (r : Fo) : wt (.nm x r) = wt r ++ [.str x] := by simp [wt, Fo.ws]
theorem bodyT_n {m : MF} {x : List Nat} (h : Fo.nmok x) {S T : List D} {b : D} {w : D} (hT : T.length < sizeLine) :
    bodyT m [.p (S ++ [.str x]), .v b, .v w, .o T, .v (.str [110])] = some (.nx [.p S, .v b, .v w, .o (T ++ [.str x]), .v (.str [110])]) := by
  unfold bodyT
  rw [sIf_t (by rfl)]
  have c : mCallX 1 F_take_name 0 (zP mNil) [.p (S ++ [.str x]), .v b, .v w, .o T, .v (.str [110])] = some (.str x, [.p S, .v b, .v w, .o T, .v (.str [110])]) := by
    have hm : F_take_name (.p (S ++ [.str x]) :: ([] : List D).map .v) = some (.v (.str x), [.p S]) := tname_eq h S
    let r : En := [.p (S ++ [.str x]), .v b, .v w, .o T, .v (.str [110])]
    have h1 : r[0]? = some (.p (S ++ [.str x])) := by rfl
    have h2 : zP mNil r = some ([], []) := by rfl
    have h4 : ([.p S] : List Sl)[0]? = some (.p S) := by rfl
    have q := callP_of (n := 1) (m := F_take_name) h1 h2 rfl hm h4
    exact q
  exact sX_of (appX_of (x := .un) (S0 := T) (S := T) rfl c rfl hT)
theorem bodyT_e {m : MF} {k : Nat} (hm : TkOk m k) {s : Fo} (h1 : s.one) (h2 : s.ok) (h3 : s.lv ≤ k) {d : D} (h4 : s.ds = [d]) {b : Nat} (hb : b + 1 + s.lv ≤ 31) (hs : s.ws.length < 100000) {S T : List D} {w : D} (hT : T.length < sizeLine) :
    bodyT m [.p (S ++ wt s), .v (.int b), .v w, .o T, .v (.str [69])] = some (.nx [.p S, .v (.int b), .v w, .o (T ++ [d]), .v (.str [69])]) := by
  obtain ⟨u, e⟩ := hm s h1 h2 h3 d h4 (b + 1) S hb hs
  unfold bodyT
  rw [sIf_f (by rfl)]
  have c : mCallX 2 m 0 (zP (mCons (mBin addD (mVar 1) (mC (.int 1))) mNil)) [.p (S ++ wt s), .v (.int b), .v w, .o T, .v (.str [69])] = some (d, [.p S, .v (.int b), .v w, .o T, .v (.str [69])]) := by
    have hm : m (.p (S ++ wt s) :: ([.int ((b + 1 : Nat) : Int)] : List D).map .v) = some (.v d, [.p S, u]) := e
    let r : En := [.p (S ++ wt s), .v (.int b), .v w, .o T, .v (.str [69])]
    have r1 : r[0]? = some (.p (S ++ wt s)) := by rfl
    have r2 : zP (mCons (mBin addD (mVar 1) (mC (.int 1))) mNil) r = some ([], [.int ((b + 1 : Nat) : Int)]) := by rfl
    have r4 : ([.p S, u] : List Sl)[0]? = some (.p S) := by rfl
    have q := callP_of (n := 2) (m := m) r1 r2 rfl hm r4
    exact q
  exact sX_of (appX_of (x := .un) (S0 := T) (S := T) rfl c rfl hT)
def sg (l : List Nat) : List D := l.map fun c => .str [c]
theorem tk_loop {m : MF} {k : Nat} (hm : TkOk m k) {b : Nat} {w : D} : ∀ (f : Fo) (S T : List D) (x : Sl), f.ok → f.lv ≤ k → b + 1 + f.lv ≤ 31 → fre x → T.length + f.ws.length < 100000 →
    ∃ x', forL (setV 4) (bodyT m) (sg f.form) [.p (S ++ wt f), .v (.int b), .v w, .o T, x] = some (.nx [.p S, .v (.int b), .v w, .o (T ++ f.ds), x'])
  | .nil, S, T, x, _, _, _, _, _ => ⟨x, by simp [wt, sg, Fo.ws, Fo.ds, Fo.form, forL]⟩
  | .nm y r, S, T, x, ok, hl, hb, hx, hT => by
    have hz : sizeLine = 16777216 := by decide
    simp only [Fo.ws, List.length_cons] at hT
    simp only [Fo.lv] at hl hb
    obtain ⟨x', e⟩ := tk_loop hm (b := b) (w := w) r S (T ++ [.str y]) (.v (.str [110])) ok.2 hl hb trivial (by simp; omega)
    refine ⟨x', ?_⟩
    have e0 := bodyT_n (m := m) ok.1 (S := S ++ wt r) (T := T) (b := .int b) (w := w) (by omega)
    have ew : S ++ wt (.nm y r) = S ++ wt r ++ [.str y] := by simp [wt, Fo.ws]
    rw [ew]
    refine (for_go (l := sg r.form) (setV_fre (x := x) rfl hx) e0).trans (e.trans ?_)
    simp [Fo.ds]
  | .nam y r, S, T, x, ok, hl, hb, hx, hT => by
    have hz : sizeLine = 16777216 := by decide
    simp only [Fo.ws, List.length_cons] at hT
    simp only [Fo.lv] at hl hb
    obtain ⟨x', e⟩ := tk_loop hm (b := b) (w := w) r S (T ++ [.tup [.str sNam, .str y]]) (.v (.str [69])) ok.2 (by omega) (by omega) trivial (by simp; omega)
    refine ⟨x', ?_⟩
    have e0 := bodyT_e hm (s := .nam y .nil) trivial ⟨ok.1, trivial⟩ (by simp only [Fo.lv]; omega) (d := .tup [.str sNam, .str y]) rfl (b := b) (by simp only [Fo.lv]; omega) (by simp [Fo.ws]) (S := S ++ wt r) (T := T) (w := w) (by omega)
    have ew : S ++ wt (.nam y r) = S ++ wt r ++ wt (.nam y .nil) := by simp [wt, Fo.ws]
    rw [ew]
    refine (for_go (l := sg r.form) (setV_fre (x := x) rfl hx) e0).trans (e.trans ?_)
    simp [Fo.ds]
  | .num y r, S, T, x, ok, hl, hb, hx, hT => by
    have hz : sizeLine = 16777216 := by decide
    simp only [Fo.ws, List.length_cons] at hT
    simp only [Fo.lv] at hl hb
    obtain ⟨x', e⟩ := tk_loop hm (b := b) (w := w) r S (T ++ [.tup [.str sNum, .int y]]) (.v (.str [69])) ok.2 (by omega) (by omega) trivial (by simp; omega)
    refine ⟨x', ?_⟩
    have e0 := bodyT_e hm (s := .num y .nil) trivial ⟨ok.1, trivial⟩ (by simp only [Fo.lv]; omega) (d := .tup [.str sNum, .int y]) rfl (b := b) (by simp only [Fo.lv]; omega) (by simp [Fo.ws]) (S := S ++ wt r) (T := T) (w := w) (by omega)
    have ew : S ++ wt (.num y r) = S ++ wt r ++ wt (.num y .nil) := by simp [wt, Fo.ws]
    rw [ew]
    refine (for_go (l := sg r.form) (setV_fre (x := x) rfl hx) e0).trans (e.trans ?_)
    simp [Fo.ds]
  | .nd v ps r, S, T, x, ok, hl, hb, hx, hT => by
    have hz : sizeLine = 16777216 := by decide
    simp only [Fo.ws, List.length_cons, List.length_append] at hT
    simp only [Fo.lv] at hl hb
    obtain ⟨x', e⟩ := tk_loop hm (b := b) (w := w) r S (T ++ [.tup (.str v :: ps.ds)]) (.v (.str [69])) ok.2.2 (by omega) (by omega) trivial (by simp; omega)
    refine ⟨x', ?_⟩
    have e0 := bodyT_e hm (s := .nd v ps .nil) trivial ⟨ok.1, ok.2.1, trivial⟩ (by simp only [Fo.lv]; omega) (d := .tup (.str v :: ps.ds)) rfl (b := b) (by simp only [Fo.lv]; omega) (by simp [Fo.ws]; omega) (S := S ++ wt r) (T := T) (w := w) (by omega)
    have ew : S ++ wt (.nd v ps r) = S ++ wt r ++ wt (.nd v ps .nil) := by simp [wt, Fo.ws]
    rw [ew]
    refine (for_go (l := sg r.form) (setV_fre (x := x) rfl hx) e0).trans (e.trans ?_)
    simp [Fo.ds]
theorem tk_start {m : MF} {b : Nat} {S : List D} {w : List Nat} {h : MS} {z : Option Fl} (hb : b ≤ 30) (q : h [.p S, .v (.int b), .v (.str w), .un, .un] = z) :
    sSeq (sIf (mBl (mBin gtD (mVar 1) (mC (.int 30)))) sNever sSkip) (sSeq (sSetX 2 (mCallX 1 F_take_word 0 (zP mNil))) h) [.p (S ++ [.str w]), .v (.int b), .un, .un, .un] = z := by
  refine seq_ff ?_ ?_
  · refine (gt_of (i := (b : Int)) (j := 30) rfl con_of).trans ?_; rw [decide_eq_false (by omega)]
  · have st : sSetX 2 (mCallX 1 F_take_word 0 (zP mNil)) [.p (S ++ [.str w]), .v (.int b), .un, .un, .un] = some (.nx [.p S, .v (.int b), .v (.str w), .un, .un]) := sSetX_of (callP_of (L := S ++ [.str w]) (L' := S) (es := []) rfl rfl rfl (word_eq S (.str w)) rfl) (by rfl)
    rw [seq_of st]; exact q
theorem tk_ok : ∀ k, TkOk (F_take_expression k) k
  | 0 => fun s h1 _ h3 => by
    have := Fo.one_lv h1
    omega
  | k + 1 => fun s h1 h2 h3 d h4 b S hb hw => by
    have ih := tk_ok k
    have l1 := Fo.one_lv h1
    have hz : sizeLine = 16777216 := by decide
    rcases s with _ | ⟨x, r⟩ | ⟨x, r⟩ | ⟨n, r⟩ | ⟨w, ps, r⟩ <;> first | (cases h1; done) | skip
    all_goals cases r <;> first | (cases h1; done) | skip
    all_goals simp only [Fo.ds, List.cons.injEq, and_true] at h4
    all_goals subst h4
    · refine ⟨.v (.int b), ?_⟩
      show mkF 2 5 (g_take_expression (F_take_expression k)) [.p (S ++ [.str x]), .v (.int b)] = _
      have e : g_take_expression (F_take_expression k) [.p (S ++ [.str x]), .v (.int b), .un, .un, .un] = some (.rt (.tup [.str sNam, .str x]) [.p S, .v (.int b), .v (.str x), .un, .un]) := by
        unfold g_take_expression
        refine tk_start (m := F_take_expression k) (by omega) (seq_tt ?_ (ret_of (call_of (p := .v (.tup [.str sNam, .str x])) (cons_of rfl nil_of) rfl (leaf_nam h2.1))))
        show some (!(look C_FORMS x).isSome) = _
        rw [look_nam h2.1]; rfl
      unfold mkF
      show (g_take_expression (F_take_expression k) [.p (S ++ [.str x]), .v (.int b), .un, .un, .un]).bind _ = _
      rw [e]; rfl
    · refine ⟨.v (.int b), ?_⟩
      show mkF 2 5 (g_take_expression (F_take_expression k)) [.p (S ++ [.str (intC n)]), .v (.int b)] = _
      have e : g_take_expression (F_take_expression k) [.p (S ++ [.str (intC n)]), .v (.int b), .un, .un, .un] = some (.rt (.tup [.str sNum, .int n]) [.p S, .v (.int b), .v (.str (intC n)), .un, .un]) := by
        unfold g_take_expression
        refine tk_start (m := F_take_expression k) (by omega) (seq_tt ?_ (ret_of (call_of (p := .v (.tup [.str sNum, .int n])) (cons_of rfl nil_of) rfl (leaf_num h2.1))))
        show some (!(look C_FORMS (intC n)).isSome) = _
        rw [look_num n]; rfl
      unfold mkF
      show (g_take_expression (F_take_expression k) [.p (S ++ [.str (intC n)]), .v (.int b), .un, .un, .un]).bind _ = _
      rw [e]; rfl
    · simp only [Fo.ws, List.length_cons, List.append_nil] at hw
      simp only [Fo.lv] at h3 hb
      refine ⟨.v (.int b), ?_⟩
      have ew : S ++ wt (.nd w ps .nil) = S ++ wt ps ++ [.str w] := by simp [wt, Fo.ws]
      rw [ew]
      show mkF 2 5 (g_take_expression (F_take_expression k)) [.p (S ++ wt ps ++ [.str w]), .v (.int b)] = _
      obtain ⟨x', lp⟩ := tk_loop ih (b := b) (w := .str w) ps S [.str w] .un h2.2.1 (by omega) (by omega) trivial (by simp; omega)
      have e : g_take_expression (F_take_expression k) [.p (S ++ wt ps ++ [.str w]), .v (.int b), .un, .un, .un] = some (.rt (.tup (.str w :: ps.ds)) [.p S, .v (.int b), .v (.str w), .o (.str w :: ps.ds), x']) := by
        unfold g_take_expression
        refine tk_start (m := F_take_expression k) (S := S ++ wt ps) (by omega) (seq_ff ?_ ?_)
        · show some (!(look C_FORMS w).isSome) = _
          rw [h2.1]; rfl
        · rw [seq_of (r' := [.p (S ++ wt ps), .v (.int b), .v (.str w), .o [.str w], .un]) (by rfl)]
          have fe : sFor (setV 4) (mItS (mUn (atT C_FORMS) (mVar 2))) (bodyT (F_take_expression k)) [.p (S ++ wt ps), .v (.int b), .v (.str w), .o [.str w], .un] = some (.nx [.p S, .v (.int b), .v (.str w), .o (.str w :: ps.ds), x']) := by
            have it : mItS (mUn (atT C_FORMS) (mVar 2)) [.p (S ++ wt ps), .v (.int b), .v (.str w), .o [.str w], .un] = some (sg ps.form) := by
              show ((look C_FORMS w).map D.str).bind signsD = _
              rw [h2.1]; rfl
            unfold sFor
            rw [it]
            exact lp
          unfold bodyT at fe
          rw [seq_of fe]
          rfl
      unfold mkF
      show (g_take_expression (F_take_expression k) [.p (S ++ wt ps ++ [.str w]), .v (.int b), .un, .un, .un]).bind _ = _
      rw [e]; rfl
theorem read_eq {f : Fo} {d : D} (h1 : f.one) (h2 : f.ok) (h3 : f.ds = [d]) (h4 : f.ws.length < 10000) (h5 : f.lv ≤ 31) : ∃ as, F_read_expression [.v (.str (joinC [32] f.ws))] = some (.v d, as) := by
  have hs := Fo.ws_ok f h2
  have hj := joinC_len 32 f.ws
  have hsum := Fo.ws_sum hs
  have hzl : sizeLine = 16777216 := by decide
  obtain ⟨u, e⟩ := tk_ok RF f h1 h2 (by unfold RF; omega) d h3 0 [] (by omega) (by omega)
  let t : D := .str (joinC [32] f.ws)
  refine mk_rt (r' := [.v t, .o [], .v d]) ?_
  show g_read_expression [.v t, .un, .un] = _
  unfold g_read_expression
  have sp : mRevF (mSplit (mVar 0) (mC (.str [32]))) [.v t, .un, .un] = some (wt f) := by
    have q : mSplit (mVar 0) (mC (.str [32])) [.v t, .un, .un] = some (f.ws.map D.str) := by
      show (if ([32] : List Nat).length ≠ 0 ∧ (joinC [32] f.ws).length < sizeLine then some ((splitS (joinC [32] f.ws) [32]).map D.str) else none) = _
      rw [if_pos ⟨by decide, by omega⟩, splitS_join (Fo.one_ws h1) fun x hx => (hs x hx).1]
    unfold mRevF
    rw [q]; rfl
  have s1 : sOwn 1 (mRevF (mSplit (mVar 0) (mC (.str [32])))) [.v t, .un, .un] = some (.nx [.v t, .o (wt f), .un]) := by
    unfold sOwn
    rw [sp]; rfl
  rw [seq_of s1]
  have s2 : sSetX 2 (mCallX 2 (F_take_expression RF) 1 (zP (mCons (mC (.int 0)) mNil))) [.v t, .o (wt f), .un] = some (.nx [.v t, .o [], .v d]) := sSetX_of (callO_of (L := wt f) (L' := []) (es := [.int ((0 : Nat) : Int)]) rfl rfl rfl e rfl) (by rfl)
  rw [seq_of s2]
  exact seq_ff (by rfl) (ret_of rfl)
/-! ### made deeper -/
def bodyD : MS := (sSet 0 (mCall 3 F__law_one (mCons (mCall 2 F__law_mixed (mCons (mVar 1) (mCons (mBin addD (mC (.int 700)) (mVar 3)) mNil))) (mCons (mVar 2) (mCons (mVar 0) mNil)))))
theorem deep_loop {ns : List (List Nat)} (hn : Nms ns) {c : Int} : ∀ (L : List Int) (f : Fo) (x : Sl), Gd f → f.lv + L.length ≤ 31 → f.ws.length + 4 * L.length ≤ 1000 → fre x → ∃ (g : Fo) (x' : Sl), Gd g ∧ g.ws.length ≤ f.ws.length + 4 * L.length ∧ forL (setV 3) bodyD (L.map D.int) [.v (itm f), .v (.int c), .v (.lst (ns.map D.str)), x] = some (.nx [.v (itm g), .v (.int c), .v (.lst (ns.map D.str)), x'])
  | [], f, x, hf, _, _, _ => ⟨f, x, hf, by simp, rfl⟩
  | k :: L, f, x, hf, hl, hw, hx => by
    rw [List.length_cons] at hl hw
    obtain ⟨n, n0, hm⟩ := mixed_eq c (700 + k)
    obtain ⟨g, hg, gw, gl, eg⟩ : ∃ g : Fo, Gd g ∧ g.ws.length ≤ f.ws.length + 4 ∧ g.lv = f.lv + 1 ∧ ∃ as, F__law_one [.v (.int n), .v (.lst (ns.map D.str)), .v (itm f)] = some (.v (itm g), as) := one_eq2 hn hf (by omega) (by omega)
    obtain ⟨q, x', q1, q2, q3⟩ := deep_loop hn (c := c) L g (.v (.int k)) hg (by omega) (by omega) trivial
    refine ⟨q, x', q1, by rw [List.length_cons]; omega, ?_⟩
    have b : bodyD [.v (itm f), .v (.int c), .v (.lst (ns.map D.str)), .v (.int k)] = some (.nx [.v (itm g), .v (.int c), .v (.lst (ns.map D.str)), .v (.int k)]) :=
      sSet_of (call_of (p := .v (itm g)) (cons_of (call_of (p := .v (.int n)) (cons_of rfl (cons_of (add_of con_of rfl) nil_of)) rfl hm) (cons_of rfl (cons_of rfl nil_of))) rfl eg) (by rfl)
    rw [List.map_cons, for_go (setV_fre (x := x) rfl hx) b, q3]
theorem deep_eq {ns : List (List Nat)} (hn : Nms ns) {c : Int} {f : Fo} (hf : Gd f) (hw : f.ws.length ≤ 500) : ∃ g : Fo, Gd g ∧ g.ws.length ≤ f.ws.length + 124 ∧ ∃ as, F__law_deepened [.v (itm f), .v (.int c), .v (.lst (ns.map D.str))] = some (.v (itm g), as) := by
  have l1 := Fo.one_lv hf.one
  have l31 := hf.lv
  let N : D := .lst (ns.map D.str)
  obtain ⟨g, x', g1, g2, g3⟩ := deep_loop hn (c := c) ((List.range (30 - ((f.lv : Int) - 1)).toNat).map fun i => (0 : Int) + (i : Nat)) f .un hf (by simp; omega) (by simp; omega) trivial
  refine ⟨g, g1, by simp at g2; omega, mk_rt (r' := [.v (itm g), .v (.int c), .v N, x']) ?_⟩
  show g__law_deepened [.v (itm f), .v (.int c), .v N, .un] = _
  unfold g__law_deepened
  have it : mRng1 (mBin subD (mC (.int 30)) (mBin ixD (mVar 0) (mC (.int 2)))) [.v (itm f), .v (.int c), .v N, .un] = some (rngD 0 (30 - ((f.lv : Int) - 1)).toNat) := by
    have e : mBin subD (mC (.int 30)) (mBin ixD (mVar 0) (mC (.int 2))) [.v (itm f), .v (.int c), .v N, .un] = some (.int (30 - ((f.lv : Int) - 1))) := bin_of con_of (ix2 (f := f) rfl) rfl
    unfold mRng1
    rw [e]
    show (if -(2 ^ 62) ≤ (30 - ((f.lv : Int) - 1)) ∧ (30 - ((f.lv : Int) - 1)) < 2 ^ 62 then some (rngD 0 (30 - ((f.lv : Int) - 1)).toNat) else none) = _
    rw [if_pos (by omega)]
  have fe : sFor (setV 3) (mRng1 (mBin subD (mC (.int 30)) (mBin ixD (mVar 0) (mC (.int 2))))) bodyD [.v (itm f), .v (.int c), .v N, .un] = some (.nx [.v (itm g), .v (.int c), .v N, x']) := by
    unfold sFor
    rw [it, rngD_ints]
    exact g3
  unfold bodyD at fe
  rw [seq_of fe]
  rfl
/-! ### the law -/
def bodyL : MS := (sSeq (sSet 9 (mJoin (mC (.str [32])) (mAsL (mVar 7))))
 (sIf (mOrT (mNotT (mTru (mCall 2 (F__law_alike RF) (mCons (mCall 1 F_read_expression (mCons (mVar 9) mNil)) (mCons (mVar 6) mNil))))) (mNotT (mTru (mCall 2 (F__law_alike RF) (mCons (mCall 1 F_shown_expression (mCons (mVar 6) mNil)) (mCons (mVar 9) mNil))))))
 (sRet (mC (.bl false)))
 sSkip))
theorem law_all {a b c d e f : Sl} : ∀ (fs : List Fo) (x y z u : Sl), (∀ f ∈ fs, Gd f) → tw fs ≤ 900 → fre x → fre y → fre z → fre u → ∃ x' y' z' u', forL (bdSeq 3 (bdCons (setV 6) (bdCons (setV 7) (bdCons (setV 8) bdNil)))) bodyL (fs.map itm) [a, b, c, d, e, f, x, y, z, u] = some (.nx [a, b, c, d, e, f, x', y', z', u'])
  | [], x, y, z, u, _, _, _, _, _, _ => ⟨x, y, z, u, rfl⟩
  | g :: fs, x, y, z, u, hf, ht, hx, hy, hz, hu => by
    have te : tw (g :: fs) = g.ws.length + tw fs := by simp [tw]
    have gg := hf g (by simp)
    have hd := Fo.one_ds gg.one
    have l31 := gg.lv
    let t : D := .str (joinC [32] g.ws)
    let R : En := [a, b, c, d, e, f, .v g.hd, .v (.lst (g.ws.map D.str)), .v (.int ((g.lv : Int) - 1)), .v t]
    obtain ⟨x', y', z', u', q⟩ := law_all (a := a) (b := b) (c := c) (d := d) (e := e) (f := f) fs (.v g.hd) (.v (.lst (g.ws.map D.str))) (.v (.int ((g.lv : Int) - 1))) (.v t) (fun k hk => hf k (by simp [hk])) (by omega) trivial trivial trivial trivial
    refine ⟨x', y', z', u', ?_⟩
    have b1 : bdSeq 3 (bdCons (setV 6) (bdCons (setV 7) (bdCons (setV 8) bdNil))) (itm g) [a, b, c, d, e, f, x, y, z, u] = some [a, b, c, d, e, f, .v g.hd, .v (.lst (g.ws.map D.str)), .v (.int ((g.lv : Int) - 1)), u] := by
      cases x <;> first | (cases hx; done) | skip
      all_goals cases y <;> first | (cases hy; done) | skip
      all_goals cases z <;> first | (cases hz; done) | rfl
    have hsum := Fo.ws_sum (Fo.ws_ok g gg.ok)
    have b2 : bodyL [a, b, c, d, e, f, .v g.hd, .v (.lst (g.ws.map D.str)), .v (.int ((g.lv : Int) - 1)), u] = some (.nx R) := by
      unfold bodyL
      have j : mJoin (mC (.str [32])) (mAsL (mVar 7)) [a, b, c, d, e, f, .v g.hd, .v (.lst (g.ws.map D.str)), .v (.int ((g.lv : Int) - 1)), u] = some t := by
        show (strsD (g.ws.map D.str)).bind _ = _
        rw [strs_ok, Option.bind_some, if_pos (by show _ + _ * 1 ≤ _; omega)]
      rw [seq_of (r' := R) (sSet_of j (setV_fre (x := u) rfl hu))]
      have r1 : mCall 1 F_read_expression (mCons (mVar 9) mNil) R = some g.hd := call_of (p := .v g.hd) (cons_of rfl nil_of) rfl (read_eq gg.one gg.ok hd (by omega) gg.lv)
      have r2 : mCall 1 F_shown_expression (mCons (mVar 6) mNil) R = some t := call_of (p := .v t) (cons_of rfl nil_of) rfl (F_shown_eq gg.one gg.ok hd (by omega))
      have a1 : mCall 2 (F__law_alike RF) (mCons (mCall 1 F_read_expression (mCons (mVar 9) mNil)) (mCons (mVar 6) mNil)) R = some (.bl true) := call_of (p := .v (.bl true)) (cons_of r1 (cons_of rfl nil_of)) rfl (al_ok 38 g (by omega) g.hd (by rw [hd]; simp))
      have a2 : mCall 2 (F__law_alike RF) (mCons (mCall 1 F_shown_expression (mCons (mVar 6) mNil)) (mCons (mVar 9) mNil)) R = some (.bl true) := call_of (p := .v (.bl true)) (cons_of r2 (cons_of rfl nil_of)) rfl (al_str 39 (joinC [32] g.ws))
      rw [sIf_f ?_]
      · rfl
      · have n1 : mNotT (mTru (mCall 2 (F__law_alike RF) (mCons (mCall 1 F_read_expression (mCons (mVar 9) mNil)) (mCons (mVar 6) mNil)))) R = some false := by unfold mNotT mTru; rw [a1]; rfl
        have n2 : mNotT (mTru (mCall 2 (F__law_alike RF) (mCons (mCall 1 F_shown_expression (mCons (mVar 6) mNil)) (mCons (mVar 9) mNil)))) R = some false := by unfold mNotT mTru; rw [a2]; rfl
        unfold mOrT
        rw [n1, Option.bind_some, if_neg (by simp), n2]
    rw [List.map_cons, for_go b1 b2, q]
theorem law_math (ns : List Int) (hl : ns.length ≤ 63) : ∃ as, F_law [.v (.lst (ns.map .int))] = some (.v (.bl true), as) := by
  let S : D := .lst (ns.map D.int)
  obtain ⟨c, hc⟩ := cell_eq ns
  obtain ⟨l, l1, l2, hn⟩ := names_eq c
  have hN : Nms l := ⟨l1, l2⟩
  let N : D := .lst (l.map D.str)
  obtain ⟨n, n0, hm⟩ := mixed_eq c 1
  obtain ⟨n2, m0, hm2⟩ := mixed_eq c 2
  obtain ⟨f, gf, wf, ef⟩ := leaf_eq (c := c) (n := n) hN
  let E : List D := enumD (cutL (ns.map D.int) (some 1) (some 201))
  have hE : ∀ d ∈ E, ∃ k c, d = .tup [.int k, .int c] := fun d hd => by
    obtain ⟨p, hp, rfl⟩ := List.mem_map.mp hd
    have : p.1 ∈ cutL (ns.map D.int) (some 1) (some 201) := by
      have := List.mem_zipIdx' hp
      obtain ⟨h1, h2⟩ := this
      rw [h2]; exact List.getElem_mem _
    obtain ⟨i, _, e⟩ := List.mem_map.mp (cut_mem this)
    exact ⟨_, i, by rw [← e]⟩
  have lE : E.length ≤ 63 := by
    have := cut_len (ns.map D.int) (some 1) (some 201)
    rw [List.length_map] at this
    show ((cutL (ns.map D.int) (some 1) (some 201)).zipIdx.map _).length ≤ _
    rw [List.length_map, List.length_zipIdx]; omega
  obtain ⟨qs, x', y', q1, q2, q0, q3⟩ := law_grow hN (S := S) (C := .int c) E [f] .un .un hE (fun g hg => by simp at hg; subst hg; exact gf) (by simp) (by simp [tw]; omega) trivial trivial
  have step : ∃ rs : List Fo, (∀ q ∈ rs, Gd q) ∧ tw rs ≤ 900 ∧ sIf (mBl (mBin eqA (mBin modD (mCall 2 F__law_mixed (mCons (mVar 1) (mCons (mC (.int 2)) mNil))) (mC (.int 4))) (mC (.int 0))))
      (sSet 3 (mBin addD (mSl (mVar 3) oNone (oSome (mUn negD (mC (.int 1))))) (mOfF (mLstF (mCons (mCall 3 F__law_deepened (mCons (mBin ixD (mVar 3) (mUn negD (mC (.int 1)))) (mCons (mVar 1) (mCons (mVar 2) mNil)))) mNil)))))
      sSkip [.v S, .v (.int c), .v N, .v (.lst (qs.map itm)), x', y', .un, .un, .un, .un] = some (.nx [.v S, .v (.int c), .v N, .v (.lst (rs.map itm)), x', y', .un, .un, .un, .un]) := by
    let R : En := [.v S, .v (.int c), .v N, .v (.lst (qs.map itm)), x', y', .un, .un, .un, .un]
    have cd : mBl (mBin eqA (mBin modD (mCall 2 F__law_mixed (mCons (mVar 1) (mCons (mC (.int 2)) mNil))) (mC (.int 4))) (mC (.int 0))) R = some (decide (n2 % 4 = 0)) := bl_of (bin_of (mod_of (call_of (p := .v (.int n2)) (cons_of rfl (cons_of con_of nil_of)) rfl hm2) con_of (by decide)) con_of rfl)
    by_cases c4 : n2 % 4 = 0
    · rw [decide_eq_true c4] at cd
      have hlen := tw_len q1
      obtain ⟨gs, hs, e1, e2⟩ := split_back qs 1 (List.length_pos_iff.mpr q0)
      obtain ⟨f1, rfl⟩ : ∃ f1, hs = [f1] := by
        match hs, e2 with
        | [f1], _ => exact ⟨f1, rfl⟩
      have te : tw qs = tw gs + f1.ws.length := by rw [e1, tw_app]; simp [tw]
      obtain ⟨g, gg, gw, eg⟩ := deep_eq hN (c := c) (q1 f1 (by rw [e1]; simp)) (by omega)
      refine ⟨gs ++ [g], fun z hz => ?_, by have tg : tw [g] = g.ws.length := (by simp [tw]); rw [tw_app, tg]; omega, ?_⟩
      · simp only [List.mem_append, List.mem_singleton] at hz
        rcases hz with hz | rfl
        · exact q1 z (by rw [e1]; simp [hz])
        · exact gg
      · rw [sIf_t cd]
        refine sSet_of (d := .lst ((gs ++ [g]).map itm)) ?_ (by rfl)
        rw [List.map_append]
        have gl : gs.length ≤ qs.length := by rw [e1]; simp
        refine ladd (l := gs.map itm) ?_ (lstF_of (l := [itm g]) (cons_of (x := itm g) ?_ nil_of) (by show 1 ≤ 100; decide)) (by simp; omega)
        · refine sl_of (x := .lst (qs.map itm)) rfl (by rfl) (osome_of (neg_of con_of)) ?_
          show some (D.lst (cutL (qs.map itm) _ _)) = _
          rw [e1, List.map_append, (cut_back (gs.map itm) ([f1].map itm) (k := -1) rfl (by simp)).2]
        · refine call_of (p := .v (itm g)) (cons_of (x := itm f1) (bin_of (x := .lst (qs.map itm)) (y := .int (-1)) rfl (neg_of con_of) ?_) (cons_of rfl (cons_of rfl nil_of))) rfl eg
          show atI (qs.map itm) (-1) = _
          rw [e1, List.map_append]
          exact atI_last _ _
    · rw [decide_eq_false c4] at cd
      exact ⟨qs, q1, by omega, by rw [sIf_f cd]; rfl⟩
  obtain ⟨rs, r1, r2, r3⟩ := step
  obtain ⟨x2, y2, z2, u2, q4⟩ := law_all (a := .v S) (b := .v (.int c)) (c := .v N) (d := .v (.lst (rs.map itm))) (e := x') (f := y') rs .un .un .un .un r1 r2 trivial trivial trivial trivial
  refine mk_rt (d := .bl true) (r' := [.v S, .v (.int c), .v N, .v (.lst (rs.map itm)), x', y', x2, y2, z2, u2]) ?_
  show g_law [.v S, .un, .un, .un, .un, .un, .un, .un, .un, .un] = _
  unfold g_law
  refine seq_set (.int c) (call_of (p := .v (.int c)) (cons_of rfl (cons_of con_of nil_of)) rfl hc) (by rfl) ?_
  refine seq_set N (call_of (p := .v N) (cons_of rfl nil_of) rfl hn) (by rfl) ?_
  refine seq_set (.lst ([f].map itm)) (lstF_of (cons_of (call_of (p := .v (itm f)) (cons_of rfl (cons_of (call_of (p := .v (.int n)) (cons_of rfl (cons_of con_of nil_of)) rfl hm) (cons_of rfl nil_of))) rfl ef) nil_of) (by show 1 ≤ 100; decide)) (r2 := [.v S, .v (.int c), .v N, .v (.lst ([f].map itm)), .un, .un, .un, .un, .un, .un]) (by rfl) ?_
  have f1 : sFor (bdSeq 2 (bdCons (setV 4) (bdCons (setV 5) bdNil))) (mEnum (mSl (mVar 0) (oSome (mC (.int 1))) (oSome (mC (.int 201))))) bodyG [.v S, .v (.int c), .v N, .v (.lst ([f].map itm)), .un, .un, .un, .un, .un, .un] = some (.nx [.v S, .v (.int c), .v N, .v (.lst (qs.map itm)), x', y', .un, .un, .un, .un]) := by
    unfold sFor
    exact q3
  unfold bodyG at f1
  rw [seq_of f1, seq_of r3]
  have f2 : sFor (bdSeq 3 (bdCons (setV 6) (bdCons (setV 7) (bdCons (setV 8) bdNil)))) (mIt (mVar 3)) bodyL [.v S, .v (.int c), .v N, .v (.lst (rs.map itm)), x', y', .un, .un, .un, .un] = some (.nx [.v S, .v (.int c), .v N, .v (.lst (rs.map itm)), x', y', x2, y2, z2, u2]) := by
    unfold sFor
    exact q4
  unfold bodyL at f2
  rw [seq_of f2]
  rfl
end K02
namespace K02
open PySem PySem.Spec PyProof.Rows L2 DD
theorem law_sp {K : PySem.W.Frag} (hm : ∀ ns : List Int, ns.length ≤ 63 → ∃ as, F_law [.v (.lst (ns.map .int))] = some (.v (.bl true), as)) (H : Hp) (a : Addr) (ns : List Int) (hl : ns.length ≤ 63) (hS : SqL K H a (ns.map V.int)) : spD K 1 F_law [.ref a] H (fun v _ => v = .bl true) (fun _ _ _ => False) := by
  obtain ⟨as, e⟩ := hm ns hl
  have il : ∀ l : List Int, IsL K (fun _ => False) H (l.map D.int) (l.map V.int) := fun l => by
    induction l with
    | nil => exact IsL.nil
    | cons x l ih => exact .cons (by rw [Is.int_iff]) ih
  refine ⟨fun _ => False, [.v (.lst (ns.map .int))], _, as, rfl, R.args (ds := [.lst (ns.map .int)]) noF (.cons (by rw [Is.lst_iff]; exact ⟨a, _, rfl, hS.imp (fun z => ⟨id, z⟩) id, il ns⟩) .nil), fun i l => ?_, e, fun v H' _ iv => by rw [Is.bl_iff] at iv; exact iv⟩
  cases i with
  | zero => exact ⟨(fun z => by cases z), (fun z => by cases z)⟩
  | succ i => exact ⟨(fun z => by cases z), (fun z => by cases z)⟩
theorem all_mk {l : PySem.W.OpenLaw} {w : World} {K : PySem.W.Frag} {h : Heap} {mg : Str → Option Value} {fa f0 f1 f2 f3 f4 f5 f6 f7 f8 f9 f10 f11 f12 f13 f14 f15 f16 f17 f18 f19 f20 f21 f22 f23 : Addr} (X : K.In h) (G : h.Ns mainGlobals mg) (hfa : mg "law" = some (.ref fa))
    {od0 an0 : Option Addr} {sl0 : Array (Option Value)} {oc0 kV0 dc0 pm0 cd0 ct0 : Value} (a0 : PySem.W.nsIn K mainGlobals "all_between" = some (some (.ref f0))) (l0 : K.lookup f0 = some ⟨oc0, od0, .func (PySem.W.fnOf "all_between" "all_between" (defArgs (top 9)) (defBody (top 9)) (defScope (top 9)) .none kV0 dc0 pm0 an0 cd0 ct0), sl0⟩) (c0 : PySem.W.codeIn K cd0 "all_between" = true) (k0 : PySem.W.keepIn K (.ref f0) = true)
    {od1 an1 : Option Addr} {sl1 : Array (Option Value)} {oc1 kV1 dc1 pm1 cd1 ct1 : Value} (a1 : PySem.W.nsIn K mainGlobals "is_name" = some (some (.ref f1))) (l1 : K.lookup f1 = some ⟨oc1, od1, .func (PySem.W.fnOf "is_name" "is_name" (defArgs (top 10)) (defBody (top 10)) (defScope (top 10)) .none kV1 dc1 pm1 an1 cd1 ct1), sl1⟩) (c1 : PySem.W.codeIn K cd1 "is_name" = true) (k1 : PySem.W.keepIn K (.ref f1) = true)
    {od2 an2 : Option Addr} {sl2 : Array (Option Value)} {oc2 kV2 dc2 pm2 cd2 ct2 : Value} (a2 : PySem.W.nsIn K mainGlobals "is_number" = some (some (.ref f2))) (l2 : K.lookup f2 = some ⟨oc2, od2, .func (PySem.W.fnOf "is_number" "is_number" (defArgs (top 11)) (defBody (top 11)) (defScope (top 11)) .none kV2 dc2 pm2 an2 cd2 ct2), sl2⟩) (c2 : PySem.W.codeIn K cd2 "is_number" = true) (k2 : PySem.W.keepIn K (.ref f2) = true)
    {od3 an3 : Option Addr} {sl3 : Array (Option Value)} {oc3 kV3 dc3 pm3 cd3 ct3 : Value} (a3 : PySem.W.nsIn K mainGlobals "read_number" = some (some (.ref f3))) (l3 : K.lookup f3 = some ⟨oc3, od3, .func (PySem.W.fnOf "read_number" "read_number" (defArgs (top 12)) (defBody (top 12)) (defScope (top 12)) .none kV3 dc3 pm3 an3 cd3 ct3), sl3⟩) (c3 : PySem.W.codeIn K cd3 "read_number" = true) (k3 : PySem.W.keepIn K (.ref f3) = true)
    {od4 an4 : Option Addr} {sl4 : Array (Option Value)} {oc4 kV4 dc4 pm4 cd4 ct4 : Value} (a4 : PySem.W.nsIn K mainGlobals "take_word" = some (some (.ref f4))) (l4 : K.lookup f4 = some ⟨oc4, od4, .func (PySem.W.fnOf "take_word" "take_word" (defArgs (top 14)) (defBody (top 14)) (defScope (top 14)) .none kV4 dc4 pm4 an4 cd4 ct4), sl4⟩) (c4 : PySem.W.codeIn K cd4 "take_word" = true) (k4 : PySem.W.keepIn K (.ref f4) = true)
    {od5 an5 : Option Addr} {sl5 : Array (Option Value)} {oc5 kV5 dc5 pm5 cd5 ct5 : Value} (a5 : PySem.W.nsIn K mainGlobals "take_name" = some (some (.ref f5))) (l5 : K.lookup f5 = some ⟨oc5, od5, .func (PySem.W.fnOf "take_name" "take_name" (defArgs (top 15)) (defBody (top 15)) (defScope (top 15)) .none kV5 dc5 pm5 an5 cd5 ct5), sl5⟩) (c5 : PySem.W.codeIn K cd5 "take_name" = true) (k5 : PySem.W.keepIn K (.ref f5) = true)
    {od6 an6 : Option Addr} {sl6 : Array (Option Value)} {oc6 kV6 dc6 pm6 cd6 ct6 : Value} (a6 : PySem.W.nsIn K mainGlobals "read_leaf" = some (some (.ref f6))) (l6 : K.lookup f6 = some ⟨oc6, od6, .func (PySem.W.fnOf "read_leaf" "read_leaf" (defArgs (top 17)) (defBody (top 17)) (defScope (top 17)) .none kV6 dc6 pm6 an6 cd6 ct6), sl6⟩) (c6 : PySem.W.codeIn K cd6 "read_leaf" = true) (k6 : PySem.W.keepIn K (.ref f6) = true)
    {od7 an7 : Option Addr} {sl7 : Array (Option Value)} {oc7 kV7 dc7 pm7 cd7 ct7 : Value} (a7 : PySem.W.nsIn K mainGlobals "take_expression" = some (some (.ref f7))) (l7 : K.lookup f7 = some ⟨oc7, od7, .func (PySem.W.fnOf "take_expression" "take_expression" (defArgs (top 16)) (defBody (top 16)) (defScope (top 16)) .none kV7 dc7 pm7 an7 cd7 ct7), sl7⟩) (c7 : PySem.W.codeIn K cd7 "take_expression" = true) (k7 : PySem.W.keepIn K (.ref f7) = true)
    {od8 an8 : Option Addr} {sl8 : Array (Option Value)} {oc8 kV8 dc8 pm8 cd8 ct8 : Value} (a8 : PySem.W.nsIn K mainGlobals "read_expression" = some (some (.ref f8))) (l8 : K.lookup f8 = some ⟨oc8, od8, .func (PySem.W.fnOf "read_expression" "read_expression" (defArgs (top 13)) (defBody (top 13)) (defScope (top 13)) .none kV8 dc8 pm8 an8 cd8 ct8), sl8⟩) (c8 : PySem.W.codeIn K cd8 "read_expression" = true) (k8 : PySem.W.keepIn K (.ref f8) = true)
    {od9 an9 : Option Addr} {sl9 : Array (Option Value)} {oc9 kV9 dc9 pm9 cd9 ct9 : Value} (a9 : PySem.W.nsIn K mainGlobals "written_parts" = some (some (.ref f9))) (l9 : K.lookup f9 = some ⟨oc9, od9, .func (PySem.W.fnOf "written_parts" "written_parts" (defArgs (top 19)) (defBody (top 19)) (defScope (top 19)) .none kV9 dc9 pm9 an9 cd9 ct9), sl9⟩) (c9 : PySem.W.codeIn K cd9 "written_parts" = true) (k9 : PySem.W.keepIn K (.ref f9) = true)
    {od10 an10 : Option Addr} {sl10 : Array (Option Value)} {oc10 kV10 dc10 pm10 cd10 ct10 : Value} (a10 : PySem.W.nsIn K mainGlobals "shown_expression" = some (some (.ref f10))) (l10 : K.lookup f10 = some ⟨oc10, od10, .func (PySem.W.fnOf "shown_expression" "shown_expression" (defArgs (top 18)) (defBody (top 18)) (defScope (top 18)) .none kV10 dc10 pm10 an10 cd10 ct10), sl10⟩) (c10 : PySem.W.codeIn K cd10 "shown_expression" = true) (k10 : PySem.W.keepIn K (.ref f10) = true)
    {od11 an11 : Option Addr} {sl11 : Array (Option Value)} {oc11 kV11 dc11 pm11 cd11 ct11 : Value} (a11 : PySem.W.nsIn K mainGlobals "_law_cell" = some (some (.ref f11))) (l11 : K.lookup f11 = some ⟨oc11, od11, .func (PySem.W.fnOf "_law_cell" "_law_cell" (defArgs (top 21)) (defBody (top 21)) (defScope (top 21)) .none kV11 dc11 pm11 an11 cd11 ct11), sl11⟩) (c11 : PySem.W.codeIn K cd11 "_law_cell" = true) (k11 : PySem.W.keepIn K (.ref f11) = true)
    {od12 an12 : Option Addr} {sl12 : Array (Option Value)} {oc12 kV12 dc12 pm12 cd12 ct12 : Value} (a12 : PySem.W.nsIn K mainGlobals "_law_mixed" = some (some (.ref f12))) (l12 : K.lookup f12 = some ⟨oc12, od12, .func (PySem.W.fnOf "_law_mixed" "_law_mixed" (defArgs (top 22)) (defBody (top 22)) (defScope (top 22)) .none kV12 dc12 pm12 an12 cd12 ct12), sl12⟩) (c12 : PySem.W.codeIn K cd12 "_law_mixed" = true) (k12 : PySem.W.keepIn K (.ref f12) = true)
    {od13 an13 : Option Addr} {sl13 : Array (Option Value)} {oc13 kV13 dc13 pm13 cd13 ct13 : Value} (a13 : PySem.W.nsIn K mainGlobals "_law_kept" = some (some (.ref f13))) (l13 : K.lookup f13 = some ⟨oc13, od13, .func (PySem.W.fnOf "_law_kept" "_law_kept" (defArgs (top 23)) (defBody (top 23)) (defScope (top 23)) .none kV13 dc13 pm13 an13 cd13 ct13), sl13⟩) (c13 : PySem.W.codeIn K cd13 "_law_kept" = true) (k13 : PySem.W.keepIn K (.ref f13) = true)
    {od14 an14 : Option Addr} {sl14 : Array (Option Value)} {oc14 kV14 dc14 pm14 cd14 ct14 : Value} (a14 : PySem.W.nsIn K mainGlobals "_law_name" = some (some (.ref f14))) (l14 : K.lookup f14 = some ⟨oc14, od14, .func (PySem.W.fnOf "_law_name" "_law_name" (defArgs (top 24)) (defBody (top 24)) (defScope (top 24)) .none kV14 dc14 pm14 an14 cd14 ct14), sl14⟩) (c14 : PySem.W.codeIn K cd14 "_law_name" = true) (k14 : PySem.W.keepIn K (.ref f14) = true)
    {od15 an15 : Option Addr} {sl15 : Array (Option Value)} {oc15 kV15 dc15 pm15 cd15 ct15 : Value} (a15 : PySem.W.nsIn K mainGlobals "_law_names" = some (some (.ref f15))) (l15 : K.lookup f15 = some ⟨oc15, od15, .func (PySem.W.fnOf "_law_names" "_law_names" (defArgs (top 25)) (defBody (top 25)) (defScope (top 25)) .none kV15 dc15 pm15 an15 cd15 ct15), sl15⟩) (c15 : PySem.W.codeIn K cd15 "_law_names" = true) (k15 : PySem.W.keepIn K (.ref f15) = true)
    {od16 an16 : Option Addr} {sl16 : Array (Option Value)} {oc16 kV16 dc16 pm16 cd16 ct16 : Value} (a16 : PySem.W.nsIn K mainGlobals "_law_leaf" = some (some (.ref f16))) (l16 : K.lookup f16 = some ⟨oc16, od16, .func (PySem.W.fnOf "_law_leaf" "_law_leaf" (defArgs (top 26)) (defBody (top 26)) (defScope (top 26)) .none kV16 dc16 pm16 an16 cd16 ct16), sl16⟩) (c16 : PySem.W.codeIn K cd16 "_law_leaf" = true) (k16 : PySem.W.keepIn K (.ref f16) = true)
    {od17 an17 : Option Addr} {sl17 : Array (Option Value)} {oc17 kV17 dc17 pm17 cd17 ct17 : Value} (a17 : PySem.W.nsIn K mainGlobals "_law_one" = some (some (.ref f17))) (l17 : K.lookup f17 = some ⟨oc17, od17, .func (PySem.W.fnOf "_law_one" "_law_one" (defArgs (top 27)) (defBody (top 27)) (defScope (top 27)) .none kV17 dc17 pm17 an17 cd17 ct17), sl17⟩) (c17 : PySem.W.codeIn K cd17 "_law_one" = true) (k17 : PySem.W.keepIn K (.ref f17) = true)
    {od18 an18 : Option Addr} {sl18 : Array (Option Value)} {oc18 kV18 dc18 pm18 cd18 ct18 : Value} (a18 : PySem.W.nsIn K mainGlobals "_law_two" = some (some (.ref f18))) (l18 : K.lookup f18 = some ⟨oc18, od18, .func (PySem.W.fnOf "_law_two" "_law_two" (defArgs (top 28)) (defBody (top 28)) (defScope (top 28)) .none kV18 dc18 pm18 an18 cd18 ct18), sl18⟩) (c18 : PySem.W.codeIn K cd18 "_law_two" = true) (k18 : PySem.W.keepIn K (.ref f18) = true)
    {od19 an19 : Option Addr} {sl19 : Array (Option Value)} {oc19 kV19 dc19 pm19 cd19 ct19 : Value} (a19 : PySem.W.nsIn K mainGlobals "_law_three" = some (some (.ref f19))) (l19 : K.lookup f19 = some ⟨oc19, od19, .func (PySem.W.fnOf "_law_three" "_law_three" (defArgs (top 29)) (defBody (top 29)) (defScope (top 29)) .none kV19 dc19 pm19 an19 cd19 ct19), sl19⟩) (c19 : PySem.W.codeIn K cd19 "_law_three" = true) (k19 : PySem.W.keepIn K (.ref f19) = true)
    {od20 an20 : Option Addr} {sl20 : Array (Option Value)} {oc20 kV20 dc20 pm20 cd20 ct20 : Value} (a20 : PySem.W.nsIn K mainGlobals "_law_grown" = some (some (.ref f20))) (l20 : K.lookup f20 = some ⟨oc20, od20, .func (PySem.W.fnOf "_law_grown" "_law_grown" (defArgs (top 30)) (defBody (top 30)) (defScope (top 30)) .none kV20 dc20 pm20 an20 cd20 ct20), sl20⟩) (c20 : PySem.W.codeIn K cd20 "_law_grown" = true) (k20 : PySem.W.keepIn K (.ref f20) = true)
    {od21 an21 : Option Addr} {sl21 : Array (Option Value)} {oc21 kV21 dc21 pm21 cd21 ct21 : Value} (a21 : PySem.W.nsIn K mainGlobals "_law_alike" = some (some (.ref f21))) (l21 : K.lookup f21 = some ⟨oc21, od21, .func (PySem.W.fnOf "_law_alike" "_law_alike" (defArgs (top 31)) (defBody (top 31)) (defScope (top 31)) .none kV21 dc21 pm21 an21 cd21 ct21), sl21⟩) (c21 : PySem.W.codeIn K cd21 "_law_alike" = true) (k21 : PySem.W.keepIn K (.ref f21) = true)
    {od22 an22 : Option Addr} {sl22 : Array (Option Value)} {oc22 kV22 dc22 pm22 cd22 ct22 : Value} (a22 : PySem.W.nsIn K mainGlobals "_law_deepened" = some (some (.ref f22))) (l22 : K.lookup f22 = some ⟨oc22, od22, .func (PySem.W.fnOf "_law_deepened" "_law_deepened" (defArgs (top 32)) (defBody (top 32)) (defScope (top 32)) .none kV22 dc22 pm22 an22 cd22 ct22), sl22⟩) (c22 : PySem.W.codeIn K cd22 "_law_deepened" = true) (k22 : PySem.W.keepIn K (.ref f22) = true)
    {od23 an23 : Option Addr} {sl23 : Array (Option Value)} {oc23 kV23 dc23 pm23 cd23 ct23 : Value} (a23 : PySem.W.nsIn K mainGlobals "law" = some (some (.ref f23))) (l23 : K.lookup f23 = some ⟨oc23, od23, .func (PySem.W.fnOf "law" "law" (defArgs (top 33)) (defBody (top 33)) (defScope (top 33)) .none kV23 dc23 pm23 an23 cd23 ct23), sl23⟩) (c23 : PySem.W.codeIn K cd23 "law" = true) (k23 : PySem.W.keepIn K (.ref f23) = true)
    (z_all : PySem.W.nsIn K mainGlobals "all" = some none)
    (z_bool : PySem.W.nsIn K mainGlobals "bool" = some none)
    (z_enumerate : PySem.W.nsIn K mainGlobals "enumerate" = some none)
    (z_int : PySem.W.nsIn K mainGlobals "int" = some none)
    (z_isinstance : PySem.W.nsIn K mainGlobals "isinstance" = some none)
    (z_len : PySem.W.nsIn K mainGlobals "len" = some none)
    (z_list : PySem.W.nsIn K mainGlobals "list" = some none)
    (z_max : PySem.W.nsIn K mainGlobals "max" = some none)
    (z_range : PySem.W.nsIn K mainGlobals "range" = some none)
    (z_str : PySem.W.nsIn K mainGlobals "str" = some none)
    (z_tuple : PySem.W.nsIn K mainGlobals "tuple" = some none)
    (z_zip : PySem.W.nsIn K mainGlobals "zip" = some none)
    {t_LONGEST_NAME : Tok} (c_LONGEST_NAME : PySem.W.nsIn K mainGlobals "LONGEST_NAME" = some (some (.int 8 t_LONGEST_NAME)))
    {t_MOST_FIGURES : Tok} (c_MOST_FIGURES : PySem.W.nsIn K mainGlobals "MOST_FIGURES" = some (some (.int 6 t_MOST_FIGURES)))
    {t_DEEPEST : Tok} (c_DEEPEST : PySem.W.nsIn K mainGlobals "DEEPEST" = some (some (.int 30 t_DEEPEST)))
    {p_KEPT_WORDS : Addr} {dd_KEPT_WORDS : Option Addr} {it_KEPT_WORDS : Array Value} {n_KEPT_WORDS : Nat} {sl_KEPT_WORDS : Array (Option Value)} (c_KEPT_WORDS : PySem.W.nsIn K mainGlobals "KEPT_WORDS" = some (some (.ref p_KEPT_WORDS))) (l_KEPT_WORDS : K.lookup p_KEPT_WORDS = some ⟨.type "tuple", dd_KEPT_WORDS, .seq it_KEPT_WORDS n_KEPT_WORDS, sl_KEPT_WORDS⟩) (s_KEPT_WORDS : it_KEPT_WORDS.size ≤ sizeLine) (v_KEPT_WORDS : Vals (C_KEPT_WORDS.map fun s => V.str ⟨s.toArray⟩) it_KEPT_WORDS.toList)
    {p_FORMS : Addr} {es_FORMS : Array DictEntry} {n_FORMS : Nat} (c_FORMS : PySem.W.nsIn K mainGlobals "FORMS" = some (some (.ref p_FORMS))) (l_FORMS : K.lookup p_FORMS = some ⟨.type "dict", none, .dict es_FORMS n_FORMS, #[]⟩) (y_FORMS : (p_FORMS == sysModules) = false) (k_FORMS : PySem.W.KeysLit w.params es_FORMS.toList) (e_FORMS : Ents es_FORMS.toList C_FORMS) :
    ∃ fd : FuncData, (∀ (s : Shared) (v : Value), BindsTo s fd ⟨[v], []⟩ [("_law_script", v)]) ∧ ∀ base : Heap, K.In base → base.Ns mainGlobals mg → FnOk l.prog w K mg base CX0 46 fa fd ["_law_script"] (spD K 1 F_law) := by
  have e := hfa.symm.trans (PySem.W.mg_of X G a23)
  cases e
  have F0 := fun_mk (st := top 9) l0 c0 k0
  have b0 := F0.binds (ps := ["text", "least", "greatest"]) fun _ _ _ _ _ _ us hl => match us, hl with | [_, _, _], _ => rfl
  have F1 := fun_mk (st := top 10) l1 c1 k1
  have b1 := F1.binds (ps := ["text"]) fun _ _ _ _ _ _ us hl => match us, hl with | [_], _ => rfl
  have F2 := fun_mk (st := top 11) l2 c2 k2
  have b2 := F2.binds (ps := ["text"]) fun _ _ _ _ _ _ us hl => match us, hl with | [_], _ => rfl
  have F3 := fun_mk (st := top 12) l3 c3 k3
  have b3 := F3.binds (ps := ["text"]) fun _ _ _ _ _ _ us hl => match us, hl with | [_], _ => rfl
  have F4 := fun_mk (st := top 14) l4 c4 k4
  have b4 := F4.binds (ps := ["waiting"]) fun _ _ _ _ _ _ us hl => match us, hl with | [_], _ => rfl
  have F5 := fun_mk (st := top 15) l5 c5 k5
  have b5 := F5.binds (ps := ["waiting"]) fun _ _ _ _ _ _ us hl => match us, hl with | [_], _ => rfl
  have F6 := fun_mk (st := top 17) l6 c6 k6
  have b6 := F6.binds (ps := ["word"]) fun _ _ _ _ _ _ us hl => match us, hl with | [_], _ => rfl
  have F7 := fun_mk (st := top 16) l7 c7 k7
  have b7 := F7.binds (ps := ["waiting", "around"]) fun _ _ _ _ _ _ us hl => match us, hl with | [_, _], _ => rfl
  have F8 := fun_mk (st := top 13) l8 c8 k8
  have b8 := F8.binds (ps := ["text"]) fun _ _ _ _ _ _ us hl => match us, hl with | [_], _ => rfl
  have F9 := fun_mk (st := top 19) l9 c9 k9
  have b9 := F9.binds (ps := ["expression"]) fun _ _ _ _ _ _ us hl => match us, hl with | [_], _ => rfl
  have F10 := fun_mk (st := top 18) l10 c10 k10
  have b10 := F10.binds (ps := ["E"]) fun _ _ _ _ _ _ us hl => match us, hl with | [_], _ => rfl
  have F11 := fun_mk (st := top 21) l11 c11 k11
  have b11 := F11.binds (ps := ["_law_script", "_law_k"]) fun _ _ _ _ _ _ us hl => match us, hl with | [_, _], _ => rfl
  have F12 := fun_mk (st := top 22) l12 c12 k12
  have b12 := F12.binds (ps := ["_law_cell_here", "_law_k"]) fun _ _ _ _ _ _ us hl => match us, hl with | [_, _], _ => rfl
  have F13 := fun_mk (st := top 23) l13 c13 k13
  have b13 := F13.binds (ps := []) fun _ _ _ _ _ _ us hl => match us, hl with | [], _ => rfl
  have F14 := fun_mk (st := top 24) l14 c14 k14
  have b14 := F14.binds (ps := ["_law_number"]) fun _ _ _ _ _ _ us hl => match us, hl with | [_], _ => rfl
  have F15 := fun_mk (st := top 25) l15 c15 k15
  have b15 := F15.binds (ps := ["_law_cell_here"]) fun _ _ _ _ _ _ us hl => match us, hl with | [_], _ => rfl
  have F16 := fun_mk (st := top 26) l16 c16 k16
  have b16 := F16.binds (ps := ["_law_cell_here", "_law_number", "_law_names_here"]) fun _ _ _ _ _ _ us hl => match us, hl with | [_, _, _], _ => rfl
  have F17 := fun_mk (st := top 27) l17 c17 k17
  have b17 := F17.binds (ps := ["_law_number", "_law_names_here", "_law_one_here"]) fun _ _ _ _ _ _ us hl => match us, hl with | [_, _, _], _ => rfl
  have F18 := fun_mk (st := top 28) l18 c18 k18
  have b18 := F18.binds (ps := ["_law_number", "_law_names_here", "_law_one_here", "_law_other"]) fun _ _ _ _ _ _ us hl => match us, hl with | [_, _, _, _], _ => rfl
  have F19 := fun_mk (st := top 29) l19 c19 k19
  have b19 := F19.binds (ps := ["_law_number", "_law_names_here", "_law_parts_here"]) fun _ _ _ _ _ _ us hl => match us, hl with | [_, _, _], _ => rfl
  have F20 := fun_mk (st := top 30) l20 c20 k20
  have b20 := F20.binds (ps := ["_law_pile", "_law_cell_here", "_law_k", "_law_names_here"]) fun _ _ _ _ _ _ us hl => match us, hl with | [_, _, _, _], _ => rfl
  have F21 := fun_mk (st := top 31) l21 c21 k21
  have b21 := F21.binds (ps := ["_law_found", "_law_due"]) fun _ _ _ _ _ _ us hl => match us, hl with | [_, _], _ => rfl
  have F22 := fun_mk (st := top 32) l22 c22 k22
  have b22 := F22.binds (ps := ["_law_item", "_law_cell_here", "_law_names_here"]) fun _ _ _ _ _ _ us hl => match us, hl with | [_, _, _], _ => rfl
  have F23 := fun_mk (st := top 33) l23 c23 k23
  have b23 := F23.binds (ps := ["_law_script"]) fun _ _ _ _ _ _ us hl => match us, hl with | [_], _ => rfl
  exact ⟨_, fun s v => .of_eq rfl, fun base _ _ => ok_law ⟨_, _, F0, PySem.W.mg_of X G a0, b0, _, _, F1, PySem.W.mg_of X G a1, b1, _, _, F2, PySem.W.mg_of X G a2, b2, _, _, F3, PySem.W.mg_of X G a3, b3, _, _, F4, PySem.W.mg_of X G a4, b4, _, _, F5, PySem.W.mg_of X G a5, b5, _, _, F6, PySem.W.mg_of X G a6, b6, _, _, F7, PySem.W.mg_of X G a7, b7, _, _, F8, PySem.W.mg_of X G a8, b8, _, _, F9, PySem.W.mg_of X G a9, b9, _, _, F10, PySem.W.mg_of X G a10, b10, _, _, F11, PySem.W.mg_of X G a11, b11, _, _, F12, PySem.W.mg_of X G a12, b12, _, _, F13, PySem.W.mg_of X G a13, b13, _, _, F14, PySem.W.mg_of X G a14, b14, _, _, F15, PySem.W.mg_of X G a15, b15, _, _, F16, PySem.W.mg_of X G a16, b16, _, _, F17, PySem.W.mg_of X G a17, b17, _, _, F18, PySem.W.mg_of X G a18, b18, _, _, F19, PySem.W.mg_of X G a19, b19, _, _, F20, PySem.W.mg_of X G a20, b20, _, _, F21, PySem.W.mg_of X G a21, b21, _, _, F22, PySem.W.mg_of X G a22, b22, _, _, F23, PySem.W.mg_of X G a23, b23, PySem.W.mg_none_of X G z_all, PySem.W.mg_none_of X G z_bool, PySem.W.mg_none_of X G z_enumerate, PySem.W.mg_none_of X G z_int, PySem.W.mg_none_of X G z_isinstance, PySem.W.mg_none_of X G z_len, PySem.W.mg_none_of X G z_list, PySem.W.mg_none_of X G z_max, PySem.W.mg_none_of X G z_range, PySem.W.mg_none_of X G z_str, PySem.W.mg_none_of X G z_tuple, PySem.W.mg_none_of X G z_zip, ⟨_, PySem.W.mg_of X G c_LONGEST_NAME⟩, ⟨_, PySem.W.mg_of X G c_MOST_FIGURES⟩, ⟨_, PySem.W.mg_of X G c_DEEPEST⟩, ⟨_, _, _, _, PySem.W.mg_of X G c_KEPT_WORDS, l_KEPT_WORDS, rfl, rfl, s_KEPT_WORDS, v_KEPT_WORDS⟩, ⟨_, _, _, PySem.W.mg_of X G c_FORMS, y_FORMS, l_FORMS, k_FORMS, e_FORMS⟩⟩⟩
theorem walk {l : PySem.W.OpenLaw} {q : Program} {loose : List Str} {XP : (Str → Option Value) → Heap → Prop} {YP : World → Heap → Prop} {d : DefRec} {K : Params → PySem.W.Frag} (hm : ∀ ns : List Int, ns.length ≤ 63 → ∃ as, F_law [.v (.lst (ns.map .int))] = some (.v (.bl true), as)) (hn : l.most = some 63) (hdf : d.params.defaults = [])
    (hY : ∀ (w : World) (h : Heap), YP w h → (K w.params).In h)
    (F : ∀ (w : World) (mg : Str → Option Value) (fa : Addr) (h : Heap), (K w.params).In h → h.Ns mainGlobals mg → mg d.name = some (.ref fa) →
      ∃ fd : FuncData, (∀ (s : Shared) (u : Value), BindsTo s fd ⟨[u], []⟩ [("_law_script", u)]) ∧ ∀ base : Heap, (K w.params).In base → base.Ns mainGlobals mg → FnOk l.prog w (K w.params) mg base CX0 46 fa fd ["_law_script"] (spD (K w.params) 1 F_law)) :
    PySem.W.WalkO q loose XP YP l.row.toRowW d [] (fun f vs => PySem.call f vs) :=
  L2.walk_ofK (n := 63) (k := 46) (x := "_law_script") (CX := CX0) (sp := fun K => spD K 1 F_law) hn (by decide) hdf ⟨rfl, by decide, by decide⟩ hY F (fun K H a ns hl _ hS => law_sp hm H a ns hl hS) fun _ _ _ _ z => z
end K02
open PyProof.Rows PySem PySem.W
set_option maxRecDepth 100000 in
set_option maxHeartbeats 0 in
theorem PySem.Challenge.cw_fieldrows_k02_expressions_read_holds : PySem.Challenge.rw_fieldrows_k02_expressions_read.Holds := by
  w_on; o_law; k_head; (case hw => w_witness2)
  k_fill
  refine K02.walk (l := PySem.Challenge.rw_fieldrows_k02_expressions_read) K02.law_math rfl rfl (fun w h Y => PySem.W.kIn_of Y) ?F
  case F =>
    intro w mg fa h KX G hmg
    refine' K02.all_mk KX G hmg ?a0 ?l0 ?c0 ?k0 ?a1 ?l1 ?c1 ?k1 ?a2 ?l2 ?c2 ?k2 ?a3 ?l3 ?c3 ?k3 ?a4 ?l4 ?c4 ?k4 ?a5 ?l5 ?c5 ?k5 ?a6 ?l6 ?c6 ?k6 ?a7 ?l7 ?c7 ?k7 ?a8 ?l8 ?c8 ?k8 ?a9 ?l9 ?c9 ?k9 ?a10 ?l10 ?c10 ?k10 ?a11 ?l11 ?c11 ?k11 ?a12 ?l12 ?c12 ?k12 ?a13 ?l13 ?c13 ?k13 ?a14 ?l14 ?c14 ?k14 ?a15 ?l15 ?c15 ?k15 ?a16 ?l16 ?c16 ?k16 ?a17 ?l17 ?c17 ?k17 ?a18 ?l18 ?c18 ?k18 ?a19 ?l19 ?c19 ?k19 ?a20 ?l20 ?c20 ?k20 ?a21 ?l21 ?c21 ?k21 ?a22 ?l22 ?c22 ?k22 ?a23 ?l23 ?c23 ?k23 ?z_all ?z_bool ?z_enumerate ?z_int ?z_isinstance ?z_len ?z_list ?z_max ?z_range ?z_str ?z_tuple ?z_zip ?c_LONGEST_NAME ?c_MOST_FIGURES ?c_DEEPEST ?c_KEPT_WORDS ?l_KEPT_WORDS ?s_KEPT_WORDS ?v_KEPT_WORDS ?c_FORMS ?l_FORMS ?y_FORMS ?k_FORMS ?e_FORMS
    (case a0 => k_is)
    (case l0 => k_is)
    (case c0 => k_is)
    (case k0 => k_is)
    (case a1 => k_is)
    (case l1 => k_is)
    (case c1 => k_is)
    (case k1 => k_is)
    (case a2 => k_is)
    (case l2 => k_is)
    (case c2 => k_is)
    (case k2 => k_is)
    (case a3 => k_is)
    (case l3 => k_is)
    (case c3 => k_is)
    (case k3 => k_is)
    (case a4 => k_is)
    (case l4 => k_is)
    (case c4 => k_is)
    (case k4 => k_is)
    (case a5 => k_is)
    (case l5 => k_is)
    (case c5 => k_is)
    (case k5 => k_is)
    (case a6 => k_is)
    (case l6 => k_is)
    (case c6 => k_is)
    (case k6 => k_is)
    (case a7 => k_is)
    (case l7 => k_is)
    (case c7 => k_is)
    (case k7 => k_is)
    (case a8 => k_is)
    (case l8 => k_is)
    (case c8 => k_is)
    (case k8 => k_is)
    (case a9 => k_is)
    (case l9 => k_is)
    (case c9 => k_is)
    (case k9 => k_is)
    (case a10 => k_is)
    (case l10 => k_is)
    (case c10 => k_is)
    (case k10 => k_is)
    (case a11 => k_is)
    (case l11 => k_is)
    (case c11 => k_is)
    (case k11 => k_is)
    (case a12 => k_is)
    (case l12 => k_is)
    (case c12 => k_is)
    (case k12 => k_is)
    (case a13 => k_is)
    (case l13 => k_is)
    (case c13 => k_is)
    (case k13 => k_is)
    (case a14 => k_is)
    (case l14 => k_is)
    (case c14 => k_is)
    (case k14 => k_is)
    (case a15 => k_is)
    (case l15 => k_is)
    (case c15 => k_is)
    (case k15 => k_is)
    (case a16 => k_is)
    (case l16 => k_is)
    (case c16 => k_is)
    (case k16 => k_is)
    (case a17 => k_is)
    (case l17 => k_is)
    (case c17 => k_is)
    (case k17 => k_is)
    (case a18 => k_is)
    (case l18 => k_is)
    (case c18 => k_is)
    (case k18 => k_is)
    (case a19 => k_is)
    (case l19 => k_is)
    (case c19 => k_is)
    (case k19 => k_is)
    (case a20 => k_is)
    (case l20 => k_is)
    (case c20 => k_is)
    (case k20 => k_is)
    (case a21 => k_is)
    (case l21 => k_is)
    (case c21 => k_is)
    (case k21 => k_is)
    (case a22 => k_is)
    (case l22 => k_is)
    (case c22 => k_is)
    (case k22 => k_is)
    (case a23 => k_is)
    (case l23 => k_is)
    (case c23 => k_is)
    (case k23 => k_is)
    (case z_all => k_is)
    (case z_bool => k_is)
    (case z_enumerate => k_is)
    (case z_int => k_is)
    (case z_isinstance => k_is)
    (case z_len => k_is)
    (case z_list => k_is)
    (case z_max => k_is)
    (case z_range => k_is)
    (case z_str => k_is)
    (case z_tuple => k_is)
    (case z_zip => k_is)
    (case c_LONGEST_NAME => k_is)
    (case c_MOST_FIGURES => k_is)
    (case c_DEEPEST => k_is)
    (case c_KEPT_WORDS => k_is)
    (case l_KEPT_WORDS => k_is)
    (case s_KEPT_WORDS => decide)
    (case v_KEPT_WORDS => repeat (first | exact .nil | refine .cons ⟨_, rfl⟩ ?_))
    (case c_FORMS => k_is)
    (case l_FORMS => k_is)
    (case y_FORMS => decide)
    (case k_FORMS => repeat (first | exact trivial | refine ⟨⟨_, _, rfl, rfl⟩, ?_⟩))
    (case e_FORMS => repeat (first | exact rfl | refine ⟨_, _, rfl, ⟨_, _, rfl, rfl⟩, ?_⟩))
