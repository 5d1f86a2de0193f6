import PyProof.Rows.All
import Wide.All
import OpenK.AllK
import Wide.FinOn
import PySem.Challenge.RW_fieldrows_k55_read_by
import Lean
set_option Elab.async false
set_option linter.all false
set_option maxRecDepth 100000
set_option maxHeartbeats 4100000
abbrev Fg := PySem.W.Frag
namespace L2
open PySem PySem.Spec PyProof.Rows
abbrev Key := Sum Int Str
def keyIs : Key → Value → Bool
  | .inl k, v => Value.isInt k v
  | .inr x, v => Value.isStrOf x v
def keyH (w : World) : Key → Int
  | .inl k => hashInt k
  | .inr x => hashStr w x
theorem keyIs_shape : ∀ {k : Key} {v : Value}, keyIs k v = true → (∃ i t, k = Sum.inl i ∧ v = Value.int i t) ∨ (∃ x t, k = Sum.inr x ∧ v = Value.str x t)
  | .inl i, v, h => by
    obtain ⟨t, e⟩ := Value.isInt_shape (k := i) (v := v) h
    exact .inl ⟨i, t, rfl, e⟩
  | .inr x, v, h => by
    obtain ⟨t, e⟩ := Value.isStrOf_shape (x := x) (v := v) h
    exact .inr ⟨x, t, rfl, e⟩
theorem key_ll (a b : Int) : decide ((Sum.inl a : Key) = Sum.inl b) = (a == b) := by
  by_cases e : a = b
  · subst e; simp
  · have h : ¬ (Sum.inl a : Key) = Sum.inl b := fun q => e (Sum.inl.inj q)
    rw [decide_eq_false h]
    exact (beq_eq_false_iff_ne.mpr e).symm
theorem key_rr (a b : Str) : decide ((Sum.inr a : Key) = Sum.inr b) = decide (a = b) := by
  by_cases e : a = b
  · subst e; simp
  · have h : ¬ (Sum.inr a : Key) = Sum.inr b := fun q => e (Sum.inr.inj q)
    rw [decide_eq_false h, decide_eq_false e]
theorem key_lr (a : Int) (b : Str) : decide ((Sum.inl a : Key) = Sum.inr b) = false := decide_eq_false (fun q => nomatch q)
theorem key_rl (a : Str) (b : Int) : decide ((Sum.inr a : Key) = Sum.inl b) = false := decide_eq_false (fun q => nomatch q)
def mixKind (prog : Program) (w : World) : PySem.KeyKind prog w Key where
  is := keyIs
  hash := keyH w
  inj := fun v a b ha hb => by
    rcases keyIs_shape ha with ⟨i, t, rfl, rfl⟩ | ⟨x, t, rfl, rfl⟩
    · rcases keyIs_shape hb with ⟨j, u, rfl, e⟩ | ⟨y, u, rfl, e⟩
      · injection e with e1 _; rw [e1]
      · exact nomatch e
    · rcases keyIs_shape hb with ⟨j, u, rfl, e⟩ | ⟨y, u, rfl, e⟩
      · exact nomatch e
      · injection e with e1 _; rw [e1]
  byValue := fun k v h => by
    rcases keyIs_shape h with ⟨i, t, rfl, rfl⟩ | ⟨x, t, rfl, rfl⟩ <;> rfl
  pyHash := fun hv h => by
    rcases keyIs_shape hv with ⟨i, t, rfl, rfl⟩ | ⟨x, t, rfl, rfl⟩
    · exact wpAny_pyHash_int h
    · exact wpAny_pyHash_str h
  eqBool := fun hu hv h => by
    rcases keyIs_shape hu with ⟨i, t, rfl, rfl⟩ | ⟨x, t, rfl, rfl⟩
    · rcases keyIs_shape hv with ⟨j, u, rfl, rfl⟩ | ⟨y, u, rfl, rfl⟩
      · rw [key_ll] at h; exact wpAny_eqBool_int h
      · rw [key_lr] at h; exact SeqAt.EqAt.int_str i t y u _ _ _ _ h
    · rcases keyIs_shape hv with ⟨j, u, rfl, rfl⟩ | ⟨y, u, rfl, rfl⟩
      · rw [key_rl] at h; exact SeqAt.EqAt.str_int x t j u _ _ _ _ h
      · rw [key_rr] at h; exact wpAny_eqBool_str h
  «strs» := fun k x t v h => by
    rcases keyIs_shape h with ⟨i, u, rfl, e⟩ | ⟨y, u, rfl, e⟩
    · exact nomatch e
    · injection e with e1 _
      subst e1
      cases v <;> rfl
end L2
namespace L2
open PySem PySem.Spec PyProof.Rows
inductive V where
  | non | bl (b : Bool) | int (i : Int) | str (x : Str) | byt (b : Array UInt8) | flt (b : UInt64) | ref (a : Addr) | ty (n : String)
  deriving DecidableEq
def RelV : V → Value → Prop
  | .non, u => u = Value.none
  | .bl b, u => u = Value.bool b
  | .int i, u => ∃ t, u = Value.int i t
  | .str x, u => ∃ t, u = Value.str x t
  | .byt b, u => ∃ t, u = Value.bytes b t
  | .flt b, u => ∃ t, u = Value.float b t
  | .ref a, u => u = Value.ref a
  | .ty n, u => u = Value.type n
abbrev Vals : List V → List Value → Prop := Paired RelV
theorem Vals.length {xs : List V} {us : List Value} (r : Vals xs us) : xs.length = us.length := Paired.length r
theorem Vals.get : ∀ {xs : List V} {us : List Value} {i : Nat} {x : V}, Vals xs us → xs[i]? = some x → ∃ u, us[i]? = some u ∧ RelV x u
  | _, _, _, _, .nil, e => by simp at e
  | _, _, 0, _, .cons r _, e => by simp at e; subst e; exact ⟨_, rfl, r⟩
  | _, _, i + 1, x, .cons _ t, e => by
    obtain ⟨u, h1, h2⟩ := Vals.get (i := i) (x := x) t (by simpa using e)
    exact ⟨u, by simpa using h1, h2⟩
theorem Vals.append : ∀ {xs ys : List V} {us ws : List Value}, Vals xs us → Vals ys ws → Vals (xs ++ ys) (us ++ ws)
  | _, _, _, _, .nil, s => s
  | _, _, _, _, .cons r t, s => .cons r (Vals.append t s)
theorem Vals.take : ∀ {xs : List V} {us : List Value} (n : Nat), Vals xs us → Vals (xs.take n) (us.take n)
  | _, _, 0, _ => .nil
  | _, _, _ + 1, .nil => .nil
  | _, _, n + 1, .cons r t => .cons r (Vals.take n t)
theorem Vals.drop : ∀ {xs : List V} {us : List Value} (n : Nat), Vals xs us → Vals (xs.drop n) (us.drop n)
  | _, _, 0, r => r
  | _, _, _ + 1, .nil => .nil
  | _, _, n + 1, .cons _ t => Vals.drop n t
def RelO : Option V → Option Value → Prop
  | some v, some u => RelV v u
  | none, none => True
  | _, _ => False
def KV {κ : Type} : List (κ × V) → List (κ × Value) → Prop := Paired fun (p : κ × V) (q : κ × Value) => p.1 = q.1 ∧ RelV p.2 q.2
def kV : Key → V
  | .inl i => .int i
  | .inr x => .str x
inductive HO where
  | lst (xs : List V)
  | tup (xs : List V)
  | dK (kvs : List (Key × V)) | dT (kvs : List (List Key × V))
  | set (S : Int → Bool) (n : Nat)
  | ins (C dx : Addr) (fs : List (Str × V))
  | own (x : Addr)
  | xd (fs : List (Str × V))
  | met (f x : Addr)
  | rng (lo hi : Int)
  | frz (o : Obj) (u : HO)
  | tbl (ps : Array Value)
  | ext (φ : Heap → Prop)
abbrev Hp := Addr → Option HO
def upd (H : Hp) (a : Addr) (o : HO) : Hp := fun b => if b = a then some o else H b
theorem upd_same {H : Hp} {a : Addr} {o : HO} : upd H a o a = some o := by unfold upd; rw [if_pos rfl]
theorem upd_ne {H : Hp} {a b : Addr} {o : HO} (h : b ≠ a) : upd H a o b = H b := by unfold upd; rw [if_neg h]
theorem ne_of_none {H : Hp} {a b : Addr} {o : HO} (h : H a = some o) (h' : H b = none) : a ≠ b := by
  intro e; subst e; rw [h] at h'; cases h'
section
variable (P : Program) (w : World)
def ObjOk (H : Hp) (h : Heap) (a : Addr) : HO → Prop
  | .lst xs => xs.length ≤ sizeLine ∧ ∃ (its : List Value) (n : Nat), Vals xs its ∧ h.get? a = some { cls := .type "list", data := .seq its.toArray n }
  | .tup xs => xs.length ≤ sizeLine ∧ ∃ its : List Value, Vals xs its ∧ IsTup h a its.toArray
  | .dK kvs => kvs.length ≤ sizeLine ∧ (a == sysModules) = false ∧ ∃ vs, KV kvs vs ∧ h.DictOf (mixKind P w) a vs
  | .dT kvs => kvs.length ≤ sizeLine ∧ (a == sysModules) = false ∧ ∃ xs : List (List Key × Addr × Value),
      Paired (fun (p : List Key × V) (q : List Key × Addr × Value) => p.1 = q.1 ∧ H q.2.1 = some (.tup (p.1.map kV)) ∧ RelV p.2 q.2.2) kvs xs ∧
      ∃ o es ep, h.get? a = some o ∧ o.ExactDict ∧ o.data = .dict es ep ∧ es.toList = xs.map (entryOfKey (tupleKind (mixKind P w))) ∧ (xs.map (·.1)).Nodup
  | .set S n => h.SetOf (intKind P w) a S n
  | .ins C dx fs => H dx = some (.own a) ∧ fs.length ≤ 1000 ∧ dx ≠ a ∧ h.get? a = some (PySem.W.instObj C dx) ∧
      ∃ mA, h.Ns1 dx mA ∧ (∀ f, RelO (fs.lookup f) (mA f)) ∧ PySem.Within mA (fs.map (·.1))
  | .own _ => ∃ o, h.get? a = some o
  | .xd fs => ∃ mA, h.Ns1 a mA ∧ ∀ f, RelO (fs.lookup f) (mA f)
  | .rng lo hi => ∃ t u v, h.get? a = some { cls := .type "range", data := .fields #[.int lo t, .int hi u, .int 1 v] }
  | .frz o u => h.get? a = some o ∧ ObjOk H h a u
  | .tbl ps => h.get? a = some { cls := .none, data := .fields ps }
  | .met f x => h.get? a = some (PySem.W.methodObj (.ref f) (.ref x))
  | .ext φ => φ h ∧ (∃ o, h.get? a = some o) ∧ ∀ h1 h2 : Heap, φ h1 → (∀ o, h1.get? a = some o → h2.get? a = some o) → φ h2
def HOk (H : Hp) (h : Heap) : Prop := ∀ a o, H a = some o → ObjOk P w H h a o
end
section
variable {P : Program} {w : World} {H H' : Hp} {h h' : Heap} {a : Addr} {o : HO}
theorem ObjOk.lt (x : ObjOk P w H h a o) : a < h.objs.size := by
  cases o with
  | lst xs => obtain ⟨_, _, _, _, e⟩ := x; exact Heap.lt_size e
  | tup xs => obtain ⟨_, _, _, p⟩ := x; exact p.lt
  | dK kvs => obtain ⟨_, _, _, _, o, _, _, e, _⟩ := x; exact Heap.lt_size e
  | dT kvs => obtain ⟨_, _, _, _, o, _, _, e, _⟩ := x; exact Heap.lt_size e
  | set S n => obtain ⟨o, _, _, _, e, _⟩ := x; exact Heap.lt_size e
  | ins C dx fs => obtain ⟨_, _, _, e, _⟩ := x; exact Heap.lt_size e
  | own y => obtain ⟨_, e⟩ := x; exact Heap.lt_size e
  | xd fs => obtain ⟨_, ⟨_, _, _, e, _⟩, _⟩ := x; exact Heap.lt_size e
  | rng lo hi => obtain ⟨_, _, _, e⟩ := x; exact Heap.lt_size e
  | frz ob u => obtain ⟨e, _⟩ := x; exact Heap.lt_size e
  | tbl ps => exact Heap.lt_size (show h.get? a = some _ from x)
  | met f y => exact Heap.lt_size (show h.get? a = some _ from x)
  | ext φ => obtain ⟨_, ⟨_, e⟩, _⟩ := x; exact Heap.lt_size e
theorem Paired.mapP {α β : Type} {F G : α → β → Prop} : ∀ {l₁ : List α} {l₂ : List β}, Paired F l₁ l₂ → (∀ a b, F a b → G a b) → Paired G l₁ l₂
  | _, _, .nil, _ => .nil
  | _, _, .cons r t, f => .cons (f _ _ r) (Paired.mapP t f)
theorem ObjOk.stay (x : ObjOk P w H h a o) (k : ∀ b u, (b = a ∨ H b = some (.own a)) → h.get? b = some u → h'.get? b = some u)
    (ho : ∀ b, H b = some (.own a) → H' b = some (.own a)) (ht : ∀ b xs, H b = some (.tup xs) → H' b = some (.tup xs)) : ObjOk P w H' h' a o := by
  induction o with
  | lst xs => obtain ⟨z, its, n, r, e⟩ := x; exact ⟨z, its, n, r, k _ _ (.inl rfl) e⟩
  | tup xs => obtain ⟨z, its, r, ob, e, c⟩ := x; exact ⟨z, its, r, ob, k _ _ (.inl rfl) e, c⟩
  | dK kvs => obtain ⟨z, y, vs, r, ob, es, ep, e, c⟩ := x; exact ⟨z, y, vs, r, ob, es, ep, k _ _ (.inl rfl) e, c⟩
  | dT kvs =>
    obtain ⟨z, y, xs, r, ob, es, ep, e, c⟩ := x
    exact ⟨z, y, xs, Paired.mapP r fun p q z => ⟨z.1, ht _ _ z.2.1, z.2.2⟩, ob, es, ep, k _ _ (.inl rfl) e, c⟩
  | set S n => obtain ⟨ob, es, ep, t, e, c⟩ := x; exact ⟨ob, es, ep, t, k _ _ (.inl rfl) e, c⟩
  | ins C dx fs =>
    obtain ⟨d, z, ne, e, mA, ⟨od, es, ep, e2, c⟩, r⟩ := x
    exact ⟨ho _ d, z, ne, k _ _ (.inl rfl) e, mA, ⟨od, es, ep, k _ _ (.inr d) e2, c⟩, r⟩
  | own y => obtain ⟨ob, e⟩ := x; exact ⟨ob, k _ _ (.inl rfl) e⟩
  | xd fs => obtain ⟨mA, ⟨od, es, ep, e, c⟩, r⟩ := x; exact ⟨mA, ⟨od, es, ep, k _ _ (.inl rfl) e, c⟩, r⟩
  | rng lo hi => obtain ⟨t, u, v, e⟩ := x; exact ⟨t, u, v, k _ _ (.inl rfl) e⟩
  | frz ob u ih => obtain ⟨e, q⟩ := x; exact ⟨k _ _ (.inl rfl) e, ih q⟩
  | tbl ps =>
    have e : h.get? a = some { cls := .none, data := .fields ps } := x
    show h'.get? a = some { cls := .none, data := .fields ps }
    exact k a _ (.inl rfl) e
  | met f y =>
    have e : h.get? a = some (PySem.W.methodObj (.ref f) (.ref y)) := x
    show h'.get? a = some (PySem.W.methodObj (.ref f) (.ref y))
    exact k a _ (.inl rfl) e
  | ext φ => obtain ⟨p, ⟨o, e⟩, st⟩ := x; exact ⟨st _ _ p fun o q => k _ _ (.inl rfl) q, ⟨o, k _ _ (.inl rfl) e⟩, st⟩
theorem HOk.lt (x : HOk P w H h) (e : H a = some o) : a < h.objs.size := (x a o e).lt
theorem HOk.fresh (x : HOk P w H h) (e : h.objs.size ≤ a) : H a = none := by
  cases q : H a with
  | none => rfl
  | some u => exact absurd (Nat.lt_of_lt_of_le (x.lt q) e) (Nat.lt_irrefl _)
theorem HOk.kept (x : HOk P w H h) (k : ∀ b u, h.get? b = some u → h'.get? b = some u) : HOk P w H h' := fun a o e =>
  (x a o e).stay (fun b u _ q => k b u q) (fun _ q => q) fun _ _ q => q
theorem HOk.laid (x : HOk P w H h) (k : ∀ b u, h.get? b = some u → h'.get? b = some u) (hp : h.objs.size ≤ a) (new : ObjOk P w (upd H a o) h' a o) : HOk P w (upd H a o) h' := fun b u e => by
  have hn := x.fresh hp
  by_cases hb : b = a
  · subst hb; rw [upd_same] at e; cases e; exact new
  · rw [upd_ne hb] at e
    exact (x b u e).stay (fun c v _ q => k c v q) (fun c q => by rw [upd_ne (ne_of_none q hn)]; exact q) fun c xs q => by rw [upd_ne (ne_of_none q hn)]; exact q
end
def Rd (H : Hp) (a : Addr) (u : HO) : Prop := H a = some u ∨ ∃ o, H a = some (.frz o u)
theorem Rd.ok {P : Program} {w : World} {H : Hp} {h : Heap} {a : Addr} {u : HO} (r : Rd H a u) (x : HOk P w H h) : ObjOk P w H h a u := by
  rcases r with r | ⟨o, r⟩
  · exact x a u r
  · obtain ⟨_, q⟩ := x a _ r
    exact q
def Mut : Option HO → Prop
  | some (.lst _) => True
  | some (.dK _) => True
  | some (.dT _) => True
  | some (.set _ _) => True
  | some (.ins _ _ _) => True
  | some (.ext _) => True
  | _ => False
section
variable {P : Program} {w : World} {H : Hp} {h h' : Heap} {x e : Addr} {o' : HO}
theorem HOk.write (ok : HOk P w H h) (mu : Mut (H x)) (he : e = x ∨ H e = some (.own x)) (k : ∀ b u, b ≠ e → h.get? b = some u → h'.get? b = some u) (heo : ∃ u, h'.get? e = some u)
    (new : ObjOk P w (upd H x o') h' x o') : HOk P w (upd H x o') h' := fun b u q => by
  have nown : ∀ c y, H c = some (.own y) → c ≠ x := fun c y r z => by subst z; rw [r] at mu; exact mu
  have ntup : ∀ c xs, H c = some (.tup xs) → c ≠ x := fun c xs r z => by subst z; rw [r] at mu; exact mu
  by_cases hb : b = x
  · subst hb; rw [upd_same] at q; cases q; exact new
  · rw [upd_ne hb] at q
    by_cases hbe : b = e
    · have q' : H b = some (.own x) := by
        rcases he with z | z
        · exact absurd (hbe.trans z) hb
        · rw [hbe]; exact z
      rw [q] at q'; cases q'
      obtain ⟨v, hv⟩ := heo
      exact ⟨v, by rw [hbe]; exact hv⟩
    · refine (ok b u q).stay (fun c v hc r => k c v ?_ r) (fun c r => by rw [upd_ne (nown c b r)]; exact r) fun c xs r => by rw [upd_ne (ntup c xs r)]; exact r
      rcases hc with rfl | hc
      · exact hbe
      · rintro rfl
        rcases he with z | z
        · exact nown c b hc z
        · rw [hc] at z; cases z; exact hb rfl
end
structure Un (fs ex : List Addr) (H H' : Hp) (h h' : Heap) : Prop where
  keep : ∀ b o, h.get? b = some o → H b = none → b ∉ fs → b ∉ ex → h'.get? b = some o
  slot : ∀ b o, h.get? b = some o → H b = none → b ∈ fs → b ∉ ex → ∃ sl, h'.get? b = some { o with slots := sl }
  free : ∀ b o, h.get? b = some o → H b = none → b ∉ ex → H' b = none
  there : ∀ b o, h.get? b = some o → b ∉ ex → ∃ o', h'.get? b = some o'
  tups : ∀ b xs, H b = some (.tup xs) → H' b = some (.tup xs)
  frzs : ∀ b o u, H b = some (.frz o u) → H' b = some (.frz o u)
  tbls : ∀ b ps, H b = some (.tbl ps) → ∃ more, H' b = some (.tbl (ps ++ more))
section
variable {fs fs' ex ex' : List Addr} {H H1 H2 : Hp} {h h1 h2 h' : Heap} {a x e : Addr} {o : HO}
theorem Un.any (u : Un fs ex H H1 h h1) {b : Addr} {ob : Obj} (q : h.get? b = some ob) (n : H b = none) (hx : b ∉ ex) : ∃ sl, h1.get? b = some { ob with slots := sl } := by
  by_cases hb : b ∈ fs
  · exact u.slot b ob q n hb hx
  · exact ⟨ob.slots, u.keep b ob q n hb hx⟩
theorem Un.kept (k : ∀ b u, h.get? b = some u → h'.get? b = some u) : Un fs ex H H h h' :=
  ⟨fun b ob q _ _ _ => k b ob q, fun b ob q _ _ _ => ⟨ob.slots, k b ob q⟩, fun _ _ _ n _ => n, fun b ob q _ => ⟨ob, k b ob q⟩, fun _ _ q => q, fun _ _ _ q => q, fun _ ps q => ⟨#[], by rw [q]; simp⟩⟩
theorem Un.refl : Un fs ex H H h h := Un.kept fun _ _ q => q
theorem Un.laid (k : ∀ b u, h.get? b = some u → h'.get? b = some u) (hp : h.objs.size ≤ a) (hn : H a = none) : Un fs ex H (upd H a o) h h' where
  keep := fun b u q _ _ _ => k b u q
  slot := fun b u q _ _ _ => ⟨u.slots, k b u q⟩
  free := fun b u q n _ => by rw [upd_ne (Nat.ne_of_lt (Nat.lt_of_lt_of_le (Heap.lt_size q) hp))]; exact n
  there := fun b u q _ => ⟨u, k b u q⟩
  tups := fun b xs q => by rw [upd_ne (ne_of_none q hn)]; exact q
  frzs := fun b u xs q => by rw [upd_ne (ne_of_none q hn)]; exact q
  tbls := fun b ps q => ⟨#[], by rw [upd_ne (ne_of_none q hn), q]; simp⟩
theorem Un.write (mu : Mut (H x)) (he : e = x ∨ H e = some (.own x)) (k : ∀ b u, b ≠ e → h.get? b = some u → h'.get? b = some u) (heo : ∃ u, h'.get? e = some u) : Un fs ex H (upd H x o) h h' := by
  have hx : ∀ b, H b = none → b ≠ x := fun b n z => by subst z; rw [n] at mu; exact mu
  have hb : ∀ b, H b = none → b ≠ e := fun b n z => by
    subst z
    rcases he with r | r
    · exact hx b n r
    · rw [n] at r; cases r
  have hm : ∀ b u, H b = some u → ¬ Mut (some u) → b ≠ x := fun b u q nm z => by subst z; rw [q] at mu; exact nm mu
  refine ⟨fun b u q n _ _ => k b u (hb b n) q, fun b u q n _ _ => ⟨u.slots, k b u (hb b n) q⟩, fun b u q n _ => by rw [upd_ne (hx b n)]; exact n, fun b u q _ => ?_,
    fun b xs q => by rw [upd_ne (hm b _ q fun z => z)]; exact q, fun b u xs q => by rw [upd_ne (hm b _ q fun z => z)]; exact q, fun b ps q => ⟨#[], by rw [upd_ne (hm b _ q fun z => z), q]; simp⟩⟩
  by_cases hbe : b = e
  · subst hbe; exact heo
  · exact ⟨u, k b u hbe q⟩
end
def trk (h : Heap) (H : Hp) : List Addr := (List.range h.objs.size).filter fun a => (H a).isSome
def hidT (h : Heap) (H : Hp) : Heap := PySem.W.hideAll h (trk h H)
theorem hidT_size (h : Heap) (H : Hp) : (hidT h H).objs.size = h.objs.size := PySem.W.hideAll_size _ _
theorem hidT_get {h : Heap} {H : Hp} {b : Addr} {o : Obj} (e : h.get? b = some o) (n : H b = none) : (hidT h H).get? b = some o :=
  PySem.W.hideAll_get _ e fun hm => by
    have q : (H b).isSome = true := (List.mem_filter.mp hm).2
    rw [n] at q; simp at q
theorem of_hidT {h : Heap} {H : Hp} {b : Addr} {o : Obj} (e : (hidT h H).get? b = some o) : h.get? b = some o ∧ H b = none := by
  have e' : h.get? b = some o := PySem.W.of_hideAll (trk h H) e
  refine ⟨e', ?_⟩
  cases q : H b with
  | none => rfl
  | some x =>
    have hm : b ∈ trk h H := List.mem_filter.mpr ⟨List.mem_range.mpr (Heap.lt_size e'), by simp [q]⟩
    have z : (hidT h H).get? b = none := PySem.W.hideAll_none (trk h H) hm
    rw [z] at e; cases e
end L2
namespace L2
open PySem PySem.Spec PyProof.Rows
structure Mod (K : Fg) (mg : Str → Option Value) (base : Heap) : Prop where
  kin : K.In base
  glob : base.Ns mainGlobals mg
  blt : ∃ mb, base.Ns builtinsNs mb ∧ ∀ x : Str, x ≠ "__name__" → mb x = bootBuiltins x
  nolimit : base.NoLimit
structure Cx where
  prog : Program
  w : World
  K : Fg
  mg : Str → Option Value
  base : Heap
  A : Around
  N : List Str
  s₀ : Shared
  H₀ : Hp
  env : Env
  outer : List Env
  stack : List Env
  ex : List Addr
  fn : Str → Bool
  calm : Bool
  pn : List (Addr × Obj)
  xe : Value → Shared → Prop
def frs (l : List Env) : List Addr := l.filterMap (·.frame)
abbrev Cx.fs (X : Cx) : List Addr := frs X.outer
def Vis (sc : Scope) (x : Str) : Prop := sc.names.lookup x = some .local ∨ sc.names.lookup x = some .cell ∨ sc.names.lookup x = some .free
def Loc (sc : Scope) (x : Str) : Prop := sc.names.lookup x = some .local ∨ sc.names.lookup x = some .cell
def Look (env : Env) (h : Heap) (m : Str → Option Value) (x : Str) (u : Value) : Prop :=
  (env.kindOf x = some .local ∧ m x = some u) ∨ ((env.kindOf x = some .cell ∨ env.kindOf x = some .free) ∧ ∃ c, env.cells.lookup x = some c ∧ h.IsCell c (some u))
structure Cx.Ok (X : Cx) : Prop where
  mod : Mod X.K X.mg X.base
  kind : X.env.scope.kind = .function
  glob : X.env.globals = mainGlobals
  blt : X.env.builtins = builtinsNs
  above : X.s₀.heap.objs.size ≤ X.env.locals
  inj : ∀ x y c, X.env.cells.lookup x = some c → X.env.cells.lookup y = some c → x = y
  has : ∀ x, (X.env.kindOf x = some .cell ∨ X.env.kindOf x = some .free) → ∃ c, X.env.cells.lookup x = some c
  cab : ∀ x c, X.fn x = true → X.env.cells.lookup x = some c → X.s₀.heap.objs.size ≤ c
  hd : X.calm = true → X.A.handled = none
  frames : X.A.frames = some X.stack
  stk : X.stack = X.outer ∨ (X.stack = X.env :: X.outer ∧ X.env.frame = some X.env.locals)
  exf : ∀ b ∈ X.ex, b ≠ X.env.locals ∧ ∀ x c, X.env.cells.lookup x = some c → c ≠ b
  bs : ∀ b o, X.base.get? b = some o → X.s₀.heap.get? b = some o ∧ X.H₀ b = none
  bsz : X.base.objs.size ≤ X.s₀.heap.objs.size
  noex : ∀ b o, X.base.get? b = some o → b ∉ X.ex
  exfs : ∀ b ∈ X.ex, b ∉ X.fs
  funs : X.s₀.heap.FunFrames X.base X.outer
  frf : ∀ b ∈ X.fs, X.H₀ b = none
structure Inv (X : Cx) (pins : List (Addr × Obj)) (σ : List (Option V)) (H : Hp) (s : Shared) : Prop where
  ok : X.Ok
  os : s.os = X.s₀.os
  bare : AllBare s.gens
  base : Un X.fs X.ex X.H₀ H X.s₀.heap s.heap
  loc : ∃ m, s.heap.Ns X.env.locals m ∧ ∀ (i : Nat) (x : Str) (v : V), X.N[i]? = some x → σ[i]? = some (some v) → Vis X.env.scope x → ∃ u, RelV v u ∧ Look X.env s.heap m x u
  cell : ∀ x c, X.env.cells.lookup x = some c → ∃ v, s.heap.IsCell c v
  free : H X.env.locals = none
  freeC : ∀ x c, X.env.cells.lookup x = some c → H c = none
  pin : ∀ p ∈ X.pn ++ pins, s.heap.get? p.1 = some p.2 ∧ H p.1 = none ∧ p.1 ≠ X.env.locals ∧ p.1 ∉ X.fs ∧ ∀ v, p.2.data ≠ .cell v
  hok : HOk X.prog X.w H s.heap
  len : σ.length = X.N.length
section
variable {X : Cx} {pins : List (Addr × Obj)} {σ : List (Option V)} {H H' : Hp} {s : Shared} {h' : Heap}
theorem Cx.Ok.nofr (ok : X.Ok) {b : Addr} {o : Obj} (e : X.base.get? b = some o) : b ∉ X.fs := fun hb => by
  have := (ok.funs.mem hb).1
  rw [e] at this; cases this
theorem Inv.bs (I : Inv X pins σ H s) : ∀ b o, X.base.get? b = some o → s.heap.get? b = some o ∧ H b = none := fun b o e =>
  ⟨I.base.keep b o (I.ok.bs b o e).1 (I.ok.bs b o e).2 (I.ok.nofr e) (I.ok.noex b o e), I.base.free b o (I.ok.bs b o e).1 (I.ok.bs b o e).2 (I.ok.noex b o e)⟩
theorem Inv.bk (I : Inv X pins σ H s) : ∀ b o, X.base.get? b = some o → s.heap.get? b = some o := fun b o e => (I.bs b o e).1
theorem Inv.mod (I : Inv X pins σ H s) : Mod X.K X.mg X.base := I.ok.mod
theorem Inv.kIn (I : Inv X pins σ H s) : X.K.In s.heap := I.ok.mod.kin.keeps I.bk
theorem Inv.lt (I : Inv X pins σ H s) : X.env.locals < s.heap.objs.size := let ⟨_, hn, _⟩ := I.loc; hn.lt
theorem Inv.sz (I : Inv X pins σ H s) : X.s₀.heap.objs.size ≤ s.heap.objs.size := Nat.le_trans I.ok.above (Nat.le_of_lt I.lt)
theorem Inv.nofs (I : Inv X pins σ H s) {a : Addr} (h : s.heap.objs.size ≤ a) : a ∉ X.fs := fun hb => by
  obtain ⟨_, o, ho, _⟩ := I.ok.funs.mem hb
  exact absurd (Nat.lt_of_lt_of_le (Heap.lt_size ho) (Nat.le_trans I.sz h)) (Nat.lt_irrefl _)
theorem Inv.cne (I : Inv X pins σ H s) : ∀ x c, X.env.cells.lookup x = some c → c ≠ X.env.locals := fun x c e z => by
  obtain ⟨v, o, ho, hd⟩ := I.cell x c e
  obtain ⟨m, ⟨o', es, ep, ho', hd', _⟩, _⟩ := I.loc
  rw [z, ho'] at ho; cases ho; rw [hd'] at hd; cases hd
theorem Inv.funs (I : Inv X pins σ H s) : s.heap.FunFrames X.base X.outer := by
  have all : ∀ (l : List Env), (∀ b ∈ frs l, b ∈ X.fs) → X.s₀.heap.FunFrames X.base l → s.heap.FunFrames X.base l := by
    intro l
    induction l with
    | nil => intro _ _; trivial
    | cons env r ih =>
      intro hs hl
      obtain ⟨hk, ⟨L, o, hf, hn, ho, hd⟩, hr⟩ := hl
      have hL : L ∈ X.fs := hs L (by unfold frs; rw [List.filterMap_cons, hf]; exact List.mem_cons_self)
      obtain ⟨sl, e⟩ := I.base.slot L o ho (I.ok.frf L hL) hL fun z => I.ok.exfs L z hL
      exact ⟨hk, ⟨L, _, hf, hn, e, hd⟩, ih (fun b hb => hs b (by unfold frs; rw [List.filterMap_cons, hf]; exact List.mem_cons_of_mem _ hb)) hr⟩
  exact all X.outer (fun _ hb => hb) I.ok.funs
theorem Inv.stack (I : Inv X pins σ H s) : s.heap.FunFrames X.base X.stack := by
  rcases I.ok.stk with e | ⟨e, hf⟩
  · rw [e]; exact I.funs
  · rw [e]
    obtain ⟨m, hn, _⟩ := I.loc
    refine .cons (by rw [I.ok.kind]; decide) hf hn ?_ I.funs
    exact Heap.get?_none_of_le (Nat.le_trans I.ok.bsz I.ok.above)
theorem Inv.stkSub (I : Inv X pins σ H s) : ∀ b ∈ frs X.stack, b ∈ X.env.locals :: X.fs := fun b hb => by
  rcases I.ok.stk with e | ⟨e, hf⟩
  · rw [e] at hb; exact List.mem_cons_of_mem _ hb
  · rw [e] at hb
    unfold frs at hb
    rw [List.filterMap_cons, hf] at hb
    exact hb
theorem Inv.stkFree (I : Inv X pins σ H s) : ∀ b ∈ frs X.stack, H b = none := fun b hb => by
  rcases List.mem_cons.mp (I.stkSub b hb) with e | hb
  · rw [e]; exact I.free
  · obtain ⟨_, o, ho, _⟩ := I.ok.funs.mem hb
    exact I.base.free b o ho (I.ok.frf b hb) fun z => I.ok.exfs b z hb
theorem Inv.step {g' : Array GenState} {t' : Nat} {d' : Drawn} {ch : List Addr} (I : Inv X pins σ H s)
    (hch : ∀ b ∈ ch, (b ∈ X.ex ∨ X.s₀.heap.objs.size ≤ b) ∧ b ≠ X.env.locals ∧ (∀ x c, X.env.cells.lookup x = some c → c ≠ b) ∧ ∀ p ∈ X.pn ++ pins, p.1 ≠ b)
    (keep : ∀ b o, b ≠ X.env.locals → b ∉ X.fs → b ∉ ch → s.heap.get? b = some o → H b = none → h'.get? b = some o)
    (slot : ∀ b o, b ≠ X.env.locals → b ∈ X.fs → b ∉ ch → s.heap.get? b = some o → H b = none → ∃ sl, h'.get? b = some { o with slots := sl }) (free : ∀ b o, b ∉ ch → s.heap.get? b = some o → H b = none → H' b = none)
    (there : ∀ b o, b ∉ ch → s.heap.get? b = some o → ∃ o', h'.get? b = some o')
    (tups : ∀ b xs, H b = some (.tup xs) → H' b = some (.tup xs)) (frzs : ∀ b o u, H b = some (.frz o u) → H' b = some (.frz o u)) (tbls : ∀ b ps, H b = some (.tbl ps) → ∃ more, H' b = some (.tbl (ps ++ more)))
    (ns : ∀ m, s.heap.Ns X.env.locals m → h'.Ns X.env.locals m) (hok : HOk X.prog X.w H' h') (hg : AllBare g') :
    Inv X pins σ H' { s with heap := h', gens := g', drawn := d', toks := t' } := by
  have neL : ∀ b o, X.s₀.heap.get? b = some o → b ≠ X.env.locals := fun b o e => Nat.ne_of_lt (Nat.lt_of_lt_of_le (Heap.lt_size e) I.ok.above)
  have neC : ∀ b o, X.s₀.heap.get? b = some o → b ∉ X.ex → b ∉ ch := fun b o e hx hb => by
    rcases (hch b hb).1 with z | z
    · exact hx z
    · exact absurd (Nat.lt_of_lt_of_le (Heap.lt_size e) z) (Nat.lt_irrefl _)
  have cellK : ∀ x c, X.env.cells.lookup x = some c → ∀ v, s.heap.IsCell c v → h'.IsCell c v := fun x c e v ⟨o, ho, hd⟩ => by
    have nch : c ∉ ch := fun z => (hch c z).2.2.1 x c e rfl
    by_cases hc : c ∈ X.fs
    · obtain ⟨sl, q⟩ := slot c o (I.cne x c e) hc nch ho (I.freeC x c e)
      exact ⟨_, q, hd⟩
    · exact ⟨o, keep c o (I.cne x c e) hc nch ho (I.freeC x c e), hd⟩
  refine ⟨I.ok, I.os, hg, ⟨fun b o e n hb hx => ?_, fun b o e n hb hx => ?_, fun b o e n hx => ?_, fun b o e hx => ?_, fun b xs e => tups b xs (I.base.tups b xs e), fun b o xs e => frzs b o xs (I.base.frzs b o xs e), fun b ps e => ?_⟩, ?_, fun x c e => ?_, ?_, fun x c e => ?_, fun p hp => ?_, hok, I.len⟩
  · exact keep b o (neL b o e) hb (neC b o e hx) (I.base.keep b o e n hb hx) (I.base.free b o e n hx)
  · obtain ⟨sl, e1⟩ := I.base.slot b o e n hb hx
    obtain ⟨sl', e2⟩ := slot b _ (neL b o e) hb (neC b o e hx) e1 (I.base.free b o e n hx)
    exact ⟨sl', e2⟩
  · obtain ⟨o', e1⟩ := I.base.there b o e hx
    exact free b o' (neC b o e hx) e1 (I.base.free b o e n hx)
  · obtain ⟨o', e1⟩ := I.base.there b o e hx
    exact there b o' (neC b o e hx) e1
  · obtain ⟨m1, e1⟩ := I.base.tbls b ps e
    obtain ⟨m2, e2⟩ := tbls b _ e1
    exact ⟨m1 ++ m2, by rw [e2, Array.append_assoc]⟩
  · obtain ⟨m, hn, hl⟩ := I.loc
    refine ⟨m, ns m hn, fun i x v e1 e2 e3 => ?_⟩
    obtain ⟨u, r, l⟩ := hl i x v e1 e2 e3
    refine ⟨u, r, ?_⟩
    rcases l with l | ⟨k, c, e, z⟩
    · exact .inl l
    · exact .inr ⟨k, c, e, cellK x c e _ z⟩
  · obtain ⟨v, z⟩ := I.cell x c e
    exact ⟨v, cellK x c e v z⟩
  · obtain ⟨m, ⟨o, _, _, ho, _⟩, _⟩ := I.loc
    exact free _ o (fun z => (hch _ z).2.1 rfl) ho I.free
  · obtain ⟨v, o, ho, hd⟩ := I.cell x c e
    exact free c o (fun z => (hch c z).2.2.1 x c e rfl) ho (I.freeC x c e)
  · obtain ⟨e, n, ne, nf, d⟩ := I.pin p hp
    have nch : p.1 ∉ ch := fun z => (hch p.1 z).2.2.2 p hp rfl
    exact ⟨keep p.1 p.2 ne nf nch e n, free p.1 p.2 nch e n, ne, nf, d⟩
theorem Inv.un {t' : Nat} (I : Inv X pins σ H s) (u : Un X.fs [] H H' s.heap h') (hok : HOk X.prog X.w H' h') : Inv X pins σ H' { s with heap := h', toks := t' } := by
  obtain ⟨m, ⟨o, es, ep, ho, r⟩, _⟩ := id I.loc
  obtain ⟨sl, hL⟩ := u.any ho I.free (by simp)
  exact I.step (g' := s.gens) (d' := s.drawn) (ch := []) (fun _ z => nomatch z) (fun b o _ hb _ e n => u.keep b o e n hb (by simp)) (fun b o _ hb _ e n => u.slot b o e n hb (by simp)) (fun b o _ e n => u.free b o e n (by simp)) (fun b o _ e => u.there b o e (by simp)) u.tups u.frzs u.tbls (fun m' hm => by
    obtain ⟨o', es', ep', ho', r'⟩ := hm
    rw [ho] at ho'; cases ho'
    exact ⟨_, es', ep', hL, r'⟩) hok I.bare
theorem Inv.call {g' : Array GenState} {t' : Nat} {d' : Drawn} {ch : List Addr} (I : Inv X pins σ H s) (u : Un (frs X.stack) ch H H' s.heap h') (hok : HOk X.prog X.w H' h') (hg : AllBare g')
    (hch : ∀ b ∈ ch, (b ∈ X.ex ∨ X.s₀.heap.objs.size ≤ b) ∧ b ≠ X.env.locals ∧ (∀ x c, X.env.cells.lookup x = some c → c ≠ b) ∧ ∀ p ∈ X.pn ++ pins, p.1 ≠ b) :
    Inv X pins σ H' { s with heap := h', gens := g', drawn := d', toks := t' } := by
  obtain ⟨m, ⟨o, es, ep, ho, r⟩, _⟩ := id I.loc
  obtain ⟨sl, hL⟩ := u.any ho I.free fun z => (hch _ z).2.1 rfl
  exact I.step (ch := ch) hch (fun b o hL hb hc e n => u.keep b o e n (fun z => (List.mem_cons.mp (I.stkSub b z)).elim hL hb) hc) (fun b o _ _ hc e n => u.any e n hc) (fun b o hc e n => u.free b o e n hc) (fun b o hc e => u.there b o e hc) u.tups u.frzs u.tbls (fun m' hm => by
    obtain ⟨o', es', ep', ho', r'⟩ := hm
    rw [ho] at ho'; cases ho'
    exact ⟨_, es', ep', hL, r'⟩) hok hg
theorem Inv.turned {t' : Nat} {it : Addr} (I : Inv X pins σ H s) (k : ∀ b o, b ≠ it → s.heap.get? b = some o → h'.get? b = some o) (hn : H it = none) (hL : it ≠ X.env.locals)
    (h1 : it ∈ X.ex ∨ X.s₀.heap.objs.size ≤ it) (h2 : ∀ x c, X.env.cells.lookup x = some c → c ≠ it) (h3 : ∀ p ∈ X.pn ++ pins, p.1 ≠ it) : Inv X pins σ H { s with heap := h', toks := t' } := by
  have nit : ∀ b u, H b = some u → b ≠ it := fun b u e z => by rw [z, hn] at e; cases e
  refine I.step (g' := s.gens) (d' := s.drawn) (ch := [it]) (fun b hb => ?_) (fun b o _ _ hc e _ => k b o (fun z => hc (by simp [z])) e) (fun b o _ _ hc e _ => ⟨o.slots, k b o (fun z => hc (by simp [z])) e⟩) (fun _ _ _ _ n => n)
    (fun b o hc e => ⟨o, k b o (fun z => hc (by simp [z])) e⟩) (fun _ _ e => e) (fun _ _ _ e => e) (fun b ps e => ⟨#[], by rw [e]; simp⟩) (fun m hm => ?_) (fun b u e => ?_) I.bare
  · have e : b = it := by simpa using hb
    subst e
    exact ⟨h1, hL, h2, h3⟩
  · obtain ⟨o, es, ep, ho, r⟩ := hm
    exact ⟨o, es, ep, k _ o (Ne.symm hL) ho, r⟩
  · refine (I.hok b u e).stay (fun c v hc q => k c v ?_ q) (fun _ q => q) fun _ _ q => q
    rcases hc with z | z
    · rw [z]; exact nit b u e
    · exact nit c _ z
theorem Inv.tok (I : Inv X pins σ H s) (t : Nat) : Inv X pins σ H { s with toks := t } := I.un (h' := s.heap) (t' := t) Un.refl I.hok
theorem Inv.kept {t' : Nat} (I : Inv X pins σ H s) (k : ∀ b u, s.heap.get? b = some u → h'.get? b = some u) : Inv X pins σ H { s with heap := h', toks := t' } := I.un (Un.kept k) (I.hok.kept k)
theorem Inv.laid {a : Addr} {o : HO} {t' : Nat} (I : Inv X pins σ H s) (k : ∀ b u, s.heap.get? b = some u → h'.get? b = some u) (hp : s.heap.objs.size ≤ a) (new : ObjOk X.prog X.w (upd H a o) h' a o) :
    Inv X pins σ (upd H a o) { s with heap := h', toks := t' } := I.un (Un.laid k hp (I.hok.fresh hp)) (I.hok.laid k hp new)
theorem Inv.write {x e : Addr} {o : HO} {t' : Nat} (I : Inv X pins σ H s) (mu : Mut (H x)) (he : e = x ∨ H e = some (.own x)) (k : ∀ b u, b ≠ e → s.heap.get? b = some u → h'.get? b = some u) (heo : ∃ u, h'.get? e = some u)
    (new : ObjOk X.prog X.w (upd H x o) h' x o) : Inv X pins σ (upd H x o) { s with heap := h', toks := t' } := I.un (Un.write mu he k heo) (I.hok.write mu he k heo new)
theorem Inv.pins_of {pins' : List (Addr × Obj)} (I : Inv X pins σ H s) (h : ∀ p ∈ pins', s.heap.get? p.1 = some p.2 ∧ H p.1 = none ∧ p.1 ≠ X.env.locals ∧ p.1 ∉ X.fs ∧ ∀ v, p.2.data ≠ .cell v) : Inv X pins' σ H s :=
  ⟨I.ok, I.os, I.bare, I.base, I.loc, I.cell, I.free, I.freeC, fun p hp => (List.mem_append.mp hp).elim (fun z => I.pin p (List.mem_append_left _ z)) (h p), I.hok, I.len⟩
theorem nodup_ix {N : List Str} (hN : N.Nodup) {i j : Nat} {x : Str} (a : N[i]? = some x) (b : N[j]? = some x) : i = j := by
  obtain ⟨h1, e1⟩ := List.getElem?_eq_some_iff.mp a
  obtain ⟨h2, e2⟩ := List.getElem?_eq_some_iff.mp b
  exact (List.getElem_inj hN).mp (e1.trans e2.symm)
theorem store_ok2 {M : Model} {A : Around} {E : Value → Shared → Prop} {i : Nat} {x : Str} {v : V} {u : Value} {Q : Unit → Shared → Prop} (I : Inv X pins σ H s) (hN : X.N.Nodup) (hi : X.N[i]? = some x) (hx : Loc X.env.scope x) (r : RelV v u)
    (h : ∀ s', Inv X pins (σ.set i (some v)) H s' → (∃ a, Heap.SameBut a s.heap s'.heap ∧ (a = X.env.locals ∨ X.env.cells.lookup x = some a)) → Q () s') (hf : X.fn x = true ∨ X.env.scope.names.lookup x = some .local := by first | exact .inl rfl | exact .inr rfl | assumption) : wpAny M A (storeName X.env x u) Q E s := by
  obtain ⟨m, hn, hl⟩ := id I.loc
  have hcls : (X.env.scope.kind == .class || (X.env.scope.kind == .module && X.env.locals != X.env.globals)) = false := by rw [I.ok.kind]; rfl
  have hiσ : i < σ.length := by rw [I.len]; exact (List.getElem?_eq_some_iff.mp hi).1
  have cne := I.cne
  have tracked : ∀ {a : Addr} {h' : Heap}, (∃ o, s.heap.get? a = some o ∧ H a = none) → Heap.SameBut a s.heap h' → HOk X.prog X.w H h' := fun {a h'} ha hs b ob e => by
    obtain ⟨_, _, hfree⟩ := ha
    refine (I.hok b ob e).stay (fun c w' hc q => (hs.2 c ?_).trans q) (fun _ q => q) fun _ _ q => q
    rintro rfl
    rcases hc with rfl | hc
    · rw [hfree] at e; cases e
    · rw [hfree] at hc; cases hc
  rcases hx with hk | hk
  · refine wpAny_storeName_local hk hn (fun h' hn' hs => ?_) hcls
    obtain ⟨oL, _, _, hoL, _⟩ := id hn
    refine h _ ⟨I.ok, I.os, I.bare, ⟨fun b o e n hb hx => ?_, fun b o e n hb hx => ?_, I.base.free, fun b o e hx => ?_, I.base.tups, I.base.frzs, I.base.tbls⟩, ⟨_, hn', fun j y v' e1 e2 e3 => ?_⟩, fun y c e => ?_, I.free, I.freeC, fun p hp => ?_, tracked ⟨oL, hoL, I.free⟩ hs, by simpa using I.len⟩ ⟨_, hs, .inl rfl⟩
    · exact (hs.2 b (Nat.ne_of_lt (Nat.lt_of_lt_of_le (Heap.lt_size e) I.ok.above))).trans (I.base.keep b o e n hb hx)
    · obtain ⟨sl, e1⟩ := I.base.slot b o e n hb hx
      exact ⟨sl, (hs.2 b (Nat.ne_of_lt (Nat.lt_of_lt_of_le (Heap.lt_size e) I.ok.above))).trans e1⟩
    · obtain ⟨o', e1⟩ := I.base.there b o e hx
      exact ⟨o', (hs.2 b (Nat.ne_of_lt (Nat.lt_of_lt_of_le (Heap.lt_size e) I.ok.above))).trans e1⟩
    · by_cases hj : j = i
      · subst hj
        rw [hi] at e1; cases e1
        rw [List.getElem?_set_self hiσ] at e2
        cases e2
        exact ⟨u, r, .inl ⟨hk, by simp⟩⟩
      · rw [List.getElem?_set_ne (Ne.symm hj)] at e2
        obtain ⟨u', r', q⟩ := hl j y v' e1 e2 e3
        refine ⟨u', r', ?_⟩
        rcases q with ⟨k, e⟩ | ⟨k, c, e, z⟩
        · refine .inl ⟨k, ?_⟩
          have : y ≠ x := fun e => hj (nodup_ix hN e1 (e ▸ hi))
          simp [this, e]
        · exact .inr ⟨k, c, e, z.sameBut hs (cne y c e)⟩
    · obtain ⟨w', z⟩ := I.cell y c e
      exact ⟨w', z.sameBut hs (cne y c e)⟩
    · obtain ⟨e, n, ne, nf, d⟩ := I.pin p hp
      exact ⟨(hs.2 p.1 ne).trans e, n, ne, nf, d⟩
  · have hfn : X.fn x = true := by
      rcases hf with z | z
      · exact z
      · rw [z] at hk; cases hk
    obtain ⟨c, hc⟩ := I.ok.has x (.inl hk)
    obtain ⟨w', z⟩ := I.cell x c hc
    refine wpAny_storeName_cell I.ok.kind hk hc z (fun h' hc' hs => ?_)
    obtain ⟨oc, hoc, hocd⟩ := id z
    refine h { s with heap := h' } ⟨I.ok, I.os, I.bare, ⟨fun b o e n hb hx => ?_, fun b o e n hb hx => ?_, I.base.free, fun b o e hx => ?_, I.base.tups, I.base.frzs, I.base.tbls⟩, ⟨m, hn.sameBut hs (Ne.symm (cne x c hc)), fun j y v' e1 e2 e3 => ?_⟩, fun y c' e => ?_, I.free, I.freeC, fun p hp => ?_, tracked ⟨oc, hoc, I.freeC x c hc⟩ hs, by simpa using I.len⟩ ⟨c, hs, .inr hc⟩
    · exact (hs.2 b (Nat.ne_of_lt (Nat.lt_of_lt_of_le (Heap.lt_size e) (I.ok.cab x c hfn hc)))).trans (I.base.keep b o e n hb hx)
    · obtain ⟨sl, e1⟩ := I.base.slot b o e n hb hx
      exact ⟨sl, (hs.2 b (Nat.ne_of_lt (Nat.lt_of_lt_of_le (Heap.lt_size e) (I.ok.cab x c hfn hc)))).trans e1⟩
    · obtain ⟨o', e1⟩ := I.base.there b o e hx
      exact ⟨o', (hs.2 b (Nat.ne_of_lt (Nat.lt_of_lt_of_le (Heap.lt_size e) (I.ok.cab x c hfn hc)))).trans e1⟩
    · by_cases hj : j = i
      · subst hj
        rw [hi] at e1; cases e1
        rw [List.getElem?_set_self hiσ] at e2
        cases e2
        exact ⟨u, r, .inr ⟨.inl hk, c, hc, hc'⟩⟩
      · rw [List.getElem?_set_ne (Ne.symm hj)] at e2
        obtain ⟨u', r', q⟩ := hl j y v' e1 e2 e3
        refine ⟨u', r', ?_⟩
        rcases q with q | ⟨k, c', e, z'⟩
        · exact .inl q
        · refine .inr ⟨k, c', e, z'.sameBut hs ?_⟩
          rintro rfl
          exact hj (nodup_ix hN e1 (I.ok.inj _ _ _ e hc ▸ hi))
    · by_cases hcc : c' = c
      · subst hcc; exact ⟨_, hc'⟩
      · obtain ⟨w2, z2⟩ := I.cell y c' e
        exact ⟨w2, z2.sameBut hs hcc⟩
    · obtain ⟨e, n, ne, nf, d⟩ := I.pin p hp
      refine ⟨(hs.2 p.1 ?_).trans e, n, ne, nf, d⟩
      intro q
      rw [q, hoc] at e
      have q' : oc = p.2 := Option.some.inj e
      exact d w' (by rw [← q']; exact hocd)
theorem store_ok {M : Model} {A : Around} {E : Value → Shared → Prop} {i : Nat} {x : Str} {v : V} {u : Value} {Q : Unit → Shared → Prop} (I : Inv X pins σ H s) (hN : X.N.Nodup) (hi : X.N[i]? = some x) (hx : Loc X.env.scope x) (r : RelV v u)
    (h : ∀ s', Inv X pins (σ.set i (some v)) H s' → Q () s') (hf : X.fn x = true ∨ X.env.scope.names.lookup x = some .local := by first | exact .inl rfl | exact .inr rfl | assumption) : wpAny M A (storeName X.env x u) Q E s :=
  store_ok2 I hN hi hx r (fun s' I' _ => h s' I') hf
theorem Inv.call' {s' : Shared} {ch : List Addr} (I : Inv X pins σ H s) (ho : s'.os = s.os) (u : Un (frs X.stack) ch H H' s.heap s'.heap) (hok : HOk X.prog X.w H' s'.heap) (hg : AllBare s'.gens)
    (hch : ∀ b ∈ ch, (b ∈ X.ex ∨ X.s₀.heap.objs.size ≤ b) ∧ b ≠ X.env.locals ∧ (∀ x c, X.env.cells.lookup x = some c → c ≠ b) ∧ ∀ p ∈ X.pn ++ pins, p.1 ≠ b) : Inv X pins σ H' s' := by
  obtain ⟨h', g', d', t', o'⟩ := s'
  have e : o' = s.os := ho
  subst e
  exact I.call (g' := g') (t' := t') (d' := d') u hok hg hch
end
abbrev XK := Value → Option Addr → Hp → Prop
abbrev St := List (Option V)
abbrev VK := V → Hp → Prop
abbrev TE := St → Hp → VK → Prop
abbrev TT := St → Hp → (Bool → Hp → Prop) → Prop
abbrev TA := St → Hp → (List V → Hp → Prop) → Prop
structure Ends where
  nx : St → Hp → Prop
  rt : VK
  bk : St → Hp → Prop := fun _ _ => False
  ct : St → Hp → Prop := fun _ _ => False
abbrev TS := Ends → St → Hp → Prop
def EP (X : Cx) (pins : List (Addr × Obj)) (σ : St) (Q : VK) (u : Value) (s' : Shared) : Prop := ∃ v H', Inv X pins σ H' s' ∧ RelV v u ∧ Q v H'
def TP (X : Cx) (pins : List (Addr × Obj)) (σ : St) (Q : Bool → Hp → Prop) (b : Bool) (s' : Shared) : Prop := ∃ H', Inv X pins σ H' s' ∧ Q b H'
def AP (X : Cx) (pins : List (Addr × Obj)) (σ : St) (Q : List V → Hp → Prop) (us : List Value) (s' : Shared) : Prop := ∃ vs H', Inv X pins σ H' s' ∧ Vals vs us ∧ Q vs H'
def SP (X : Cx) (pins : List (Addr × Obj)) (D : Ends) (f : Flow) (s' : Shared) : Prop :=
  match f with
  | .next => ∃ σ' H', Inv X pins σ' H' s' ∧ D.nx σ' H'
  | .brk => ∃ σ' H', Inv X pins σ' H' s' ∧ D.bk σ' H'
  | .cont => ∃ σ' H', Inv X pins σ' H' s' ∧ D.ct σ' H'
  | .ret u => ∃ v σ' H', Inv X pins σ' H' s' ∧ RelV v u ∧ D.rt v H'
def PE (X : Cx) (e : Expr) (t : TE) : Prop :=
  ∀ (pins : List (Addr × Obj)) (s : Shared) (σ : St) (H : Hp) (Q : VK), Inv X pins σ H s → t σ H Q → wpAny (model X.prog X.w) X.A (eval e X.env) (EP X pins σ Q) X.xe s
def PT (X : Cx) (e : Expr) (t : TT) : Prop :=
  ∀ (pins : List (Addr × Obj)) (s : Shared) (σ : St) (H : Hp) (Q : Bool → Hp → Prop), Inv X pins σ H s → t σ H Q → wpAny (model X.prog X.w) X.A (isTrue e X.env (eval e X.env)) (TP X pins σ Q) X.xe s
def PW (X : Cx) (e : Expr) (t : TT) : Prop :=
  ∀ (whole : Sem Value) (pins : List (Addr × Obj)) (s : Shared) (σ : St) (H : Hp) (Q : Bool → Hp → Prop), Inv X pins σ H s → t σ H Q → wpAny (model X.prog X.w) X.A (isTrue e X.env whole) (TP X pins σ Q) X.xe s
theorem PW.pt {X : Cx} {e : Expr} {t : TT} (h : PW X e t) : PT X e t := h _
def PA (X : Cx) (es : List Expr) (t : TA) : Prop :=
  ∀ (pos : Pos) (pins : List (Addr × Obj)) (s : Shared) (σ : St) (H : Hp) (Q : List V → Hp → Prop), Inv X pins σ H s → t σ H Q → wpAny (model X.prog X.w) X.A (spliced (backTo pos (starEach es X.env))) (AP X pins σ Q) X.xe s
def PS (X : Cx) (st : Stmt) (t : TS) : Prop :=
  ∀ (pins : List (Addr × Obj)) (s : Shared) (σ : St) (H : Hp) (D : Ends), Inv X pins σ H s → t D σ H → wpAny (model X.prog X.w) X.A (exec st X.env) (SP X pins D) X.xe s
def PSs (X : Cx) (st : List Stmt) (t : TS) : Prop :=
  ∀ (pins : List (Addr × Obj)) (s : Shared) (σ : St) (H : Hp) (D : Ends), Inv X pins σ H s → t D σ H → wpAny (model X.prog X.w) X.A (execs st X.env) (SP X pins D) X.xe s
theorem thn {α : Type} {t : Sem α} {Q Q' : α → Shared → Prop} {M : Model} {A : Around} {E : Value → Shared → Prop} {s : Shared} (h : wpAny M A t Q E s) (hQ : ∀ a s, Q a s → Q' a s) : wpAny M A t Q' E s := wpAny_mono h hQ fun _ _ x => x
end L2
namespace L2
open PySem PySem.Spec PyProof.Rows
section
variable {X : Cx}
def tVar (i : Nat) : TE := fun σ H Q => ∃ v, σ[i]? = some (some v) ∧ Q v H
def tC (v : V) : TE := fun _ H Q => Q v H
theorem pe_var {i : Nat} {x : Str} {pos : Pos} (hN : X.N[i]? = some x) (hv : Vis X.env.scope x) (hd : (x == ("__debug__" : Str)) = false := by decide) (hcd : (x == ("__classdict__" : Str)) = false := by decide) : PE X (.Name x pos) (tVar i) := by
  intro pins s σ H Q I h
  obtain ⟨v, e, h⟩ := h
  obtain ⟨m, hn, hl⟩ := I.loc
  obtain ⟨u, r, l⟩ := hl i x v hN e hv
  have fin : EP X pins σ Q u s := ⟨v, H, I, r, h⟩
  rcases l with ⟨hk, hm⟩ | ⟨hk, c, hc, hcell⟩
  · exact wpAny_Name (wpAny_loadName_local I.ok.kind hk hn hm fin) hd
  · rcases hk with hk | hk
    · exact wpAny_Name (wpAny_loadName_cell I.ok.kind hk hc hcell fin) hd
    · exact wpAny_Name (wpAny_loadName_free I.ok.kind hk hc hcell fin hcd) hd
theorem pe_int {i j pos} : PE X (.Constant (.int i) j pos) (tC (.int i)) := fun _ _ _ H _ I h => wpAny_Constant_int ⟨.int i, H, I.tok _, ⟨_, rfl⟩, h⟩
theorem pe_bl {b j pos} : PE X (.Constant (.bool b) j pos) (tC (.bl b)) := fun _ _ _ H _ I h => Constant_bool ⟨.bl b, H, I, rfl, h⟩
theorem pe_non {j pos} : PE X (.Constant .none j pos) (tC .non) := fun _ _ _ H _ I h => Constant_none ⟨.non, H, I, rfl, h⟩
theorem pe_str {x j pos} : PE X (.Constant (.str x) j pos) (tC (.str x)) := fun _ _ _ H _ I h => Calls.Constant_str ⟨.str x, H, I.tok _, ⟨_, rfl⟩, h⟩
def Gl (X : Cx) (x : Str) : Prop := X.env.kindOf x = some .globalImplicit
theorem ld_glob {E : Value → Shared → Prop} {pins : List (Addr × Obj)} {s : Shared} {σ : St} {H : Hp} {x : Str} {u : Value} {pos : Pos} {Q : Value → Shared → Prop} (I : Inv X pins σ H s) (hg : Gl X x) (hm : X.mg x = some u) (h : Q u s)
    (hd : (x == ("__debug__" : Str)) = false := by decide) : wpAny (model X.prog X.w) X.A (eval (.Name x pos) X.env) Q E s :=
  Calls.Name_function_global I.ok.kind hg (Calls.loadGlobal_global (by rw [I.ok.glob]; exact I.mod.glob.keeps I.bk) hm h) hd
theorem ld_blt {E : Value → Shared → Prop} {pins : List (Addr × Obj)} {s : Shared} {σ : St} {H : Hp} {x : Str} {u : Value} {pos : Pos} {Q : Value → Shared → Prop} (I : Inv X pins σ H s) (hg : Gl X x) (hm : X.mg x = none) (hv : bootBuiltins x = some u) (h : Q u s)
    (hn : x ≠ "__name__" := by decide) (hd : (x == ("__debug__" : Str)) = false := by decide) : wpAny (model X.prog X.w) X.A (eval (.Name x pos) X.env) Q E s := by
  obtain ⟨mb, h1, h2⟩ := I.mod.blt
  exact Calls.Name_function_global I.ok.kind hg (Calls.loadGlobal_builtin (by rw [I.ok.glob]; exact I.mod.glob.keeps I.bk) hm (by rw [I.ok.blt]; exact h1.keeps I.bk) ((h2 x hn).trans hv) h) hd
theorem pe_bltn {x : Str} {v : V} {u : Value} {pos : Pos} (hg : Gl X x) (hm : X.mg x = none) (hv : bootBuiltins x = some u) (r : RelV v u) (hn : x ≠ "__name__" := by decide) (hd : (x == ("__debug__" : Str)) = false := by decide) : PE X (.Name x pos) (tC v) :=
  fun _ _ _ H _ I h => ld_blt I hg hm hv ⟨v, H, I, r, h⟩ hn hd
variable {a b : Expr} {ta tb : TE} {pos : Pos}
variable {tA tB' : TT} {rest : List Expr}
def tAnd (t u : TT) : TT := fun σ H Q => t σ H fun c H1 => if c = true then u σ H1 Q else Q false H1
def tOr (t u : TT) : TT := fun σ H Q => t σ H fun c H1 => if c = true then Q true H1 else u σ H1 Q
def tNot (t : TT) : TT := fun σ H Q => t σ H fun c H1 => Q (!c) H1
theorem pw_and1 (ha : PT X a tA) : PW X (.BoolOp .And [a] pos) tA := by
  intro wh pins s σ H Q I h
  refine isTrue_and (thn (ha pins s σ H Q I h) fun c s1 e => ?_)
  cases c with
  | true => exact isTrue_and_nil e
  | false => exact e
theorem pw_or1 (ha : PT X a tA) : PW X (.BoolOp .Or [a] pos) tA := by
  intro wh pins s σ H Q I h
  refine isTrue_or (thn (ha pins s σ H Q I h) fun c s1 e => ?_)
  cases c with
  | false => exact isTrue_or_nil e
  | true => exact e
theorem pw_and (ha : PT X a tA) (hb : PW X (.BoolOp .And (b :: rest) pos) tB') : PW X (.BoolOp .And (a :: b :: rest) pos) (tAnd tA tB') := by
  intro wh pins s σ H Q I h
  refine isTrue_and (thn (ha pins s σ H _ I h) fun c s1 ⟨H1, I1, q1⟩ => ?_)
  cases c with
  | true => exact hb wh pins s1 σ H1 Q I1 q1
  | false => exact ⟨H1, I1, q1⟩
theorem pw_or (ha : PT X a tA) (hb : PW X (.BoolOp .Or (b :: rest) pos) tB') : PW X (.BoolOp .Or (a :: b :: rest) pos) (tOr tA tB') := by
  intro wh pins s σ H Q I h
  refine isTrue_or (thn (ha pins s σ H _ I h) fun c s1 ⟨H1, I1, q1⟩ => ?_)
  cases c with
  | true => exact ⟨H1, I1, q1⟩
  | false => exact hb wh pins s1 σ H1 Q I1 q1
theorem pt_not (ha : PT X a tA) : PT X (.UnaryOp .Not a pos) (tNot tA) := by
  intro pins s σ H Q I h
  exact isTrue_not (ha pins s σ H (fun c H1 => Q (!c) H1) I h)
def tAndV (ta tb : TE) : TE := fun σ H Q => ta σ H fun x H1 => ∃ c, x = .bl c ∧ if c = true then tb σ H1 Q else Q (.bl false) H1
def tNotV (ta : TE) : TE := fun σ H Q => ta σ H fun x H1 => ∃ c, x = .bl c ∧ Q (.bl (!c)) H1
theorem pe_one {op} {t : TE} (h : PE X a t) : PE X (.BoolOp op [a] pos) t := fun pins s σ H Q I hw => BoolOp_one (h pins s σ H Q I hw)
theorem pe_and (ha : PE X a ta) (hb : PE X (.BoolOp .And (b :: rest) pos) tb) : PE X (.BoolOp .And (a :: b :: rest) pos) (tAndV ta tb) := by
  intro pins s σ H Q I h
  refine BoolOp_and (thn (ha pins s σ H _ I h) fun v s1 ⟨x, H1, I1, r1, q1⟩ => ?_)
  obtain ⟨c, rfl, q1⟩ := q1
  cases r1
  refine wpAny_truthy_bool ?_
  cases c with
  | true => exact hb pins s1 σ H1 Q I1 q1
  | false => exact ⟨.bl false, H1, I1, rfl, q1⟩
theorem pe_not (ha : PE X a ta) : PE X (.UnaryOp .Not a pos) (tNotV ta) := by
  intro pins s σ H Q I h
  refine UnaryOp_ (thn (ha pins s σ H _ I h) fun v s1 ⟨x, H1, I1, r1, q1⟩ => ?_)
  obtain ⟨c, rfl, q1⟩ := q1
  cases r1
  exact not_of (wpAny_truthy_bool ⟨.bl (!c), H1, I1, rfl, q1⟩)
end
end L2
namespace L2
open PySem PySem.Spec PyProof.Rows
def SqL (K : Fg) (H : Hp) (a : Addr) (xs : List V) : Prop :=
  Rd H a (.lst xs) ∨
    ∃ (o : Obj) (its : Array Value) (n : Nat), K.lookup a = some o ∧ o.cls = .type "list" ∧ o.dict = none ∧ o.data = .seq its n ∧ its.size ≤ sizeLine ∧ Vals xs its.toList
def SqT (K : Fg) (H : Hp) (a : Addr) (xs : List V) : Prop :=
  Rd H a (.tup xs) ∨
    ∃ (o : Obj) (its : Array Value) (n : Nat), K.lookup a = some o ∧ o.cls = .type "tuple" ∧ o.data = .seq its n ∧ its.size ≤ sizeLine ∧ Vals xs its.toList
def absV : Value → Option V
  | .none => some .non
  | .bool b => some (.bl b)
  | .int i _ => some (.int i)
  | .str x _ => some (.str x)
  | .bytes b _ => some (.byt b)
  | .float b _ => some (.flt b)
  | .ref a => some (.ref a)
  | .type n => some (.ty n)
  | _ => none
theorem RelV.abs {x : V} {u : Value} (r : RelV x u) : absV u = some x := by
  cases x with
  | non => cases r; rfl
  | bl _ => cases r; rfl
  | int _ => obtain ⟨t, rfl⟩ := r; rfl
  | str _ => obtain ⟨t, rfl⟩ := r; rfl
  | byt _ => obtain ⟨t, rfl⟩ := r; rfl
  | flt _ => obtain ⟨t, rfl⟩ := r; rfl
  | ref _ => cases r; rfl
  | ty _ => cases r; rfl
theorem RelV.inj {x y : V} {u : Value} (r : RelV x u) (q : RelV y u) : x = y := Option.some.inj (r.abs.symm.trans q.abs)
theorem Vals.inj : ∀ {xs ys : List V} {us : List Value}, Vals xs us → Vals ys us → xs = ys
  | _, _, _, .nil, .nil => rfl
  | _, _, _, .cons r t, .cons r' t' => by rw [r.inj r', Vals.inj t t']
section
variable {X : Cx} {pins : List (Addr × Obj)} {σ : St} {H : Hp} {s : Shared} {a : Addr} {xs ys : List V}
theorem SqL.of {K : Fg} (h : H a = some (.lst xs)) : SqL K H a xs := .inl (.inl h)
theorem SqT.of {K : Fg} (h : H a = some (.tup xs)) : SqT K H a xs := .inl (.inl h)
theorem Inv.list (I : Inv X pins σ H s) (h : SqL X.K H a xs) : ∃ its : List Value, Vals xs its ∧ PlainL s.heap a its.toArray ∧ xs.length ≤ sizeLine := by
  rcases h with h | ⟨o, its, n, hk, hc, hd, hs, hz, r⟩
  · obtain ⟨z, its, n, r, e⟩ := h.ok I.hok
    exact ⟨its, r, ⟨_, n, e, rfl, rfl, rfl⟩, z⟩
  · refine ⟨its.toList, r, ⟨o, n, I.kIn a o hk, hc, hd, by simpa using hs⟩, ?_⟩
    have e := r.length
    simp only [Array.length_toList] at e
    omega
theorem Inv.tuple (I : Inv X pins σ H s) (h : SqT X.K H a xs) : ∃ its : List Value, Vals xs its ∧ IsTup s.heap a its.toArray ∧ xs.length ≤ sizeLine := by
  rcases h with h | ⟨o, its, n, hk, hc, hs, hz, r⟩
  · obtain ⟨z, its, r, p⟩ := h.ok I.hok
    exact ⟨its, r, p, z⟩
  · refine ⟨its.toList, r, ⟨o, I.kIn a o hk, hc, n, by simpa using hs⟩, ?_⟩
    have e := r.length
    simp only [Array.length_toList] at e
    omega
theorem Inv.list_inj (I : Inv X pins σ H s) (h : SqL X.K H a xs) (h' : SqL X.K H a ys) : xs = ys := by
  obtain ⟨its, r, ⟨o, n, e, _, _, d⟩, _⟩ := I.list h
  obtain ⟨its', r', ⟨o', n', e', _, _, d'⟩, _⟩ := I.list h'
  rw [e] at e'; cases e'
  rw [d] at d'
  injection d' with d1 _
  have : its = its' := by simpa using congrArg Array.toList d1
  subst this
  exact r.inj r'
theorem Inv.tuple_inj (I : Inv X pins σ H s) (h : SqT X.K H a xs) (h' : SqT X.K H a ys) : xs = ys := by
  obtain ⟨its, r, ⟨o, e, _, n, d⟩, _⟩ := I.tuple h
  obtain ⟨its', r', ⟨o', e', _, n', d'⟩, _⟩ := I.tuple h'
  rw [e] at e'; cases e'
  rw [d] at d'
  injection d' with d1 _
  have : its = its' := by simpa using congrArg Array.toList d1
  subst this
  exact r.inj r'
end
abbrev Cx.wish (X : Cx) (E : Value → Shared → Prop) : Cx := { X with xe := E }
abbrev Cx.nox (X : Cx) : Cx := X.wish fun _ _ => False
theorem Cx.Ok.wish {X : Cx} (ok : X.Ok) (E : Value → Shared → Prop) : (X.wish E).Ok :=
  ⟨ok.mod, ok.kind, ok.glob, ok.blt, ok.above, ok.inj, ok.has, ok.cab, ok.hd, ok.frames, ok.stk, ok.exf, ok.bs, ok.bsz, ok.noex, ok.exfs, ok.funs, ok.frf⟩
theorem Cx.Ok.unwish {X : Cx} {E : Value → Shared → Prop} (ok : (X.wish E).Ok) : X.Ok :=
  ⟨ok.mod, ok.kind, ok.glob, ok.blt, ok.above, ok.inj, ok.has, ok.cab, ok.hd, ok.frames, ok.stk, ok.exf, ok.bs, ok.bsz, ok.noex, ok.exfs, ok.funs, ok.frf⟩
section
variable {X : Cx} {pins : List (Addr × Obj)} {σ : St} {H : Hp} {s : Shared} {E : Value → Shared → Prop}
theorem Inv.wish (I : Inv X pins σ H s) (E : Value → Shared → Prop) : Inv (X.wish E) pins σ H s := ⟨I.ok.wish E, I.os, I.bare, I.base, I.loc, I.cell, I.free, I.freeC, I.pin, I.hok, I.len⟩
theorem Inv.unwish (I : Inv (X.wish E) pins σ H s) : Inv X pins σ H s := ⟨I.ok.unwish, I.os, I.bare, I.base, I.loc, I.cell, I.free, I.freeC, I.pin, I.hok, I.len⟩
theorem SP.unwish {D : Ends} {f : Flow} {s' : Shared} (h : SP (X.wish E) pins D f s') : SP X pins D f s' := by
  cases f with
  | next => obtain ⟨σ', H', I, q⟩ := h; exact ⟨σ', H', I.unwish, q⟩
  | brk => obtain ⟨σ', H', I, q⟩ := h; exact ⟨σ', H', I.unwish, q⟩
  | cont => obtain ⟨σ', H', I, q⟩ := h; exact ⟨σ', H', I.unwish, q⟩
  | ret u => obtain ⟨v, σ', H', I, r, q⟩ := h; exact ⟨v, σ', H', I.unwish, r, q⟩
theorem PSs.nox {st : List Stmt} {t : TS} (h : PSs X.nox st t) : PSs X st t := fun pins s σ H D I hw =>
  wpAny_mono (h pins s σ H D (I.wish _) hw) (fun _ _ q => q.unwish) fun _ _ z => False.elim z
end
section
variable {X : Cx} {st : Stmt} {rest : List Stmt} {t u : TS} {e : Expr} {te : TE} {pos : Pos}
def tNext : TS := fun D σ H => D.nx σ H
def tSeq (t u : TS) : TS := fun D σ H => t { D with nx := u D } σ H
theorem pss_nil : PSs X [] tNext := fun _ _ σ H _ I h => wpAny_execs_nil ⟨σ, H, I, h⟩
theorem pss_cons (h1 : PS X st t) (h2 : PSs X rest u) : PSs X (st :: rest) (tSeq t u) := by
  intro pins s σ H D I h
  refine wpAny_execs_cons (thn (h1 pins s σ H { D with nx := u D } I h) fun f s1 q => ?_)
  cases f with
  | next =>
    obtain ⟨σ', H', I', q⟩ := q
    exact h2 pins s1 σ' H' D I' q
  | ret v => exact q
  | brk => exact q
  | cont => exact q
theorem pss_one (h1 : PS X st t) : PSs X [st] t := by
  intro pins s σ H D I h
  refine wpAny_execs_cons (thn (h1 pins s σ H D I h) fun f s1 q => ?_)
  cases f with
  | next => exact wpAny_execs_nil q
  | ret v => exact q
  | brk => exact q
  | cont => exact q
theorem Inv.quiet {pins : List (Addr × Obj)} {σ : St} {H : Hp} {s : Shared} (I : Inv X pins σ H s) : interactive X.env = false := by simp [interactive, I.ok.kind]
def tDrop (te : TE) : TS := fun D σ H => te σ H fun _ H1 => D.nx σ H1
theorem ps_expr (he : PE X e te) (hs : swapsWith e none pos.line X.env = pure false := by rfl) : PS X (.Expr e pos) (tDrop te) := by
  intro pins s σ H D I h
  exact wpAny_Expr_any (thn (he pins s σ H _ I h) fun v s1 ⟨x, H1, I1, r1, q1⟩ => ⟨σ, H1, I1, q1⟩) I.quiet hs
def tRet (te : TE) : TS := fun D σ H => te σ H D.rt
theorem ps_ret (he : PE X e te) : PS X (.Return (some e) pos) (tRet te) := by
  intro pins s σ H D I h
  exact wpAny_Return_some (thn (he pins s σ H _ I h) fun v s1 ⟨x, H1, I1, r1, q1⟩ => ⟨x, σ, H1, I1, r1, q1⟩)
def tIfS (c : TT) (t u : TS) : TS := fun D σ H => c σ H fun b H1 => if b = true then t D σ H1 else u D σ H1
theorem ps_if {c : Expr} {a b : List Stmt} {tc : TT} (hc : PT X c tc) (ha : PSs X a t) (hb : PSs X b u) : PS X (.If c a b pos) (tIfS tc t u) := by
  intro pins s σ H D I h
  refine wpAny_If (thn (hc pins s σ H _ I h) fun d s1 ⟨H1, I1, q1⟩ => ?_)
  cases d with
  | true => exact ha pins s1 σ H1 D I1 q1
  | false => exact hb pins s1 σ H1 D I1 q1
end
abbrev TG := V → St → Hp → (St → Hp → Prop) → Prop
abbrev TGs := List V → St → Hp → (St → Hp → Prop) → Prop
def PG (X : Cx) (target : Expr) (t : TG) : Prop :=
  ∀ (pins : List (Addr × Obj)) (s : Shared) (σ : St) (H : Hp) (v : V) (u : Value) (Q : St → Hp → Prop), Inv X pins σ H s → RelV v u → t v σ H Q →
    wpAny (model X.prog X.w) X.A (assign target X.env u) (fun _ s' => ∃ σ' H', Inv X pins σ' H' s' ∧ Q σ' H') X.xe s
def PGs (X : Cx) (ts : List Expr) (t : TGs) : Prop :=
  ∀ (pins : List (Addr × Obj)) (s : Shared) (σ : St) (H : Hp) (vs : List V) (us : List Value) (Q : St → Hp → Prop), Inv X pins σ H s → Vals vs us → t vs σ H Q →
    wpAny (model X.prog X.w) X.A (assignInOrder ((assignEach ts X.env).map (·.2)) us) (fun _ s' => ∃ σ' H', Inv X pins σ' H' s' ∧ Q σ' H') X.xe s
section
variable {X : Cx} {pos : Pos}
def gName (i : Nat) : TG := fun v σ H Q => Q (σ.set i (some v)) H
theorem pg_name {i : Nat} {x : Str} (hN : X.N.Nodup) (hi : X.N[i]? = some x) (hx : Loc X.env.scope x) (hf : X.fn x = true ∨ X.env.scope.names.lookup x = some .local := by first | exact .inl rfl | exact .inr rfl | assumption) : PG X (.Name x pos) (gName i) := by
  intro pins s σ H v u Q I r h
  exact wpAny_assign_Name (store_ok I hN hi hx r (fun s' I' => ⟨_, H, I', h⟩) hf)
def gNil : TGs := fun vs σ H Q => vs = [] ∧ Q σ H
def gCons (t : TG) (u : TGs) : TGs := fun vs σ H Q => ∃ v r, vs = v :: r ∧ t v σ H fun σ' H' => u r σ' H' Q
theorem pgs_nil : PGs X [] gNil := by
  intro pins s σ H vs us Q I r h
  obtain ⟨e, h⟩ := h
  subst e
  cases r
  exact assignInOrder_nil ⟨σ, H, I, h⟩
theorem pgs_cons {e : Expr} {es : List Expr} {t : TG} {u : TGs} (h1 : PG X e t) (h2 : PGs X es u)
    (hs : (assignEach (e :: es) X.env).map (·.2) = assign e X.env :: (assignEach es X.env).map (·.2) := by rfl) : PGs X (e :: es) (gCons t u) := by
  intro pins s σ H vs us Q I r h
  obtain ⟨v, vr, e1, h⟩ := h
  subst e1
  cases r with
  | cons r rr =>
    rw [hs]
    refine assignInOrder_cons (thn (h1 pins s σ H _ _ _ I r h) fun _ s1 ⟨σ1, H1, I1, q1⟩ => ?_)
    exact h2 pins s1 σ1 H1 _ _ Q I1 rr q1
def gTup (K : Fg) (n : Nat) (t : TGs) : TG := fun v σ H Q => ∃ a xs, v = .ref a ∧ SqT K H a xs ∧ xs.length = n ∧ t xs σ H Q
theorem pg_tup {es : List Expr} {k : Nat} {t : TGs} {n : Nat} (hc : X.calm = true) (h : PGs X es t)
    (hn : (assignEach es X.env).length = n := by rfl) (hst : (assignEach es X.env).findIdx? (·.1) = none := by rfl) : PG X (.Tuple es k pos) (gTup X.K n t) := by
  intro pins s σ H v u Q I r hw
  obtain ⟨a, xs, e1, hq, hl, hw⟩ := hw
  subst e1
  cases r
  obtain ⟨its, rv, ht, hz⟩ := I.tuple hq
  refine assign_Tuple_tuple (I.ok.hd hc) ht (by simp [hn, ← hl, rv.length]) hst fun h' hx => ?_
  have I1 : Inv X pins σ H { s with heap := h' } := I.kept (t' := s.toks) fun b o e => hx b o (Nat.ne_of_lt (Heap.lt_size e)) e
  exact h pins _ σ H xs _ Q I1 (by simpa using rv) hw
def tAsg (te : TE) (g : TG) : TS := fun D σ H => te σ H fun x H1 => g x σ H1 D.nx
theorem ps_asg {tg e : Expr} {te : TE} {g : TG} (he : PE X e te) (hg : PG X tg g) (hs : swapsWithSole [tg] e pos.line X.env = pure false := by rfl) (hw : swappedStores [tg] e X.env = pure none := by rfl)
    (h1 : (assignEach [tg] X.env).map (·.2) = [assign tg X.env] := by rfl) : PS X (.Assign [tg] e pos) (tAsg te g) := by
  intro pins s σ H D I h
  refine wpAny_Assign_stores (thn (he pins s σ H _ I h) fun v s1 ⟨x, H1, I1, r1, q1⟩ => ?_) hs hw
  rw [h1]
  exact thn (hg pins s1 σ H1 x v _ I1 r1 q1) fun _ s2 q => q
theorem ps_set {i : Nat} {x : Str} {e : Expr} {te : TE} {pos' : Pos} (hN : X.N.Nodup) (hi : X.N[i]? = some x) (hx : Loc X.env.scope x) (he : PE X e te) (hs : swapsWith e (some (.Name x pos')) pos.line X.env = pure false := by rfl) (hf : X.fn x = true ∨ X.env.scope.names.lookup x = some .local := by first | exact .inl rfl | exact .inr rfl | assumption) :
    PS X (.Assign [.Name x pos'] e pos) (tAsg te (gName i)) := by
  intro pins s σ H D I h
  refine wpAny_Assign_Name (thn (he pins s σ H _ I h) fun v s1 ⟨y, H1, I1, r1, q1⟩ => ?_) hs
  exact store_ok I1 hN hi hx r1 (fun s2 I2 => ⟨_, H1, I2, q1⟩) hf
end
section
variable {X : Cx} {pos : Pos}
def tWhile (c : TT) (tb : TS) : TS := fun D σ H => ∃ W : Nat → St → Hp → Prop, (∃ m, W m σ H) ∧ ∀ m σ H, W m σ H →
  c σ H fun b H1 => if b = true then ∃ N : St → Hp → Prop, (∀ σ' H', N σ' H' → ∃ m', m' < m ∧ W m' σ' H') ∧ tb { D with nx := N, ct := N, bk := D.nx } σ H1 else D.nx σ H1
theorem ps_while {c : Expr} {body : List Stmt} {tc : TT} {tb : TS} (hp : PassesOwn (model X.prog X.w) X.A X.env X.xe) (hc : PT X c tc) (hb : PSs X body tb) : PS X (.While c body [] pos) (tWhile tc tb) := by
  intro pins s σ H D I h
  obtain ⟨W, ⟨m0, w0⟩, turn⟩ := h
  refine wpAny_While (codeAny_whileLoop (fun n s' => ∃ σ' H', Inv X pins σ' H' s' ∧ W n σ' H') ?_ m0 ⟨σ, H, I, w0⟩)
  rintro n s1 ⟨σ1, H1, I1, w1⟩
  refine wpAny_passesOwn hp (thn (hc pins s1 σ1 H1 _ I1 (turn n σ1 H1 w1)) fun b s2 ⟨H2, I2, q2⟩ => ?_)
  cases b with
  | true =>
    obtain ⟨N, hN, q2⟩ := q2
    rw [if_pos rfl]
    refine wpAny_passesOwn hp (thn (hb pins s2 σ1 H2 _ I2 q2) fun f s3 q3 => ?_)
    cases f with
    | next =>
      obtain ⟨σ3, H3, I3, n3⟩ := q3
      obtain ⟨m', hm, w3⟩ := hN σ3 H3 n3
      exact ⟨m', hm, σ3, H3, I3, w3⟩
    | cont =>
      obtain ⟨σ3, H3, I3, n3⟩ := q3
      obtain ⟨m', hm, w3⟩ := hN σ3 H3 n3
      exact ⟨m', hm, σ3, H3, I3, w3⟩
    | brk => exact q3
    | ret v => exact q3
  | false =>
    rw [if_neg Bool.false_ne_true]
    exact wpAny_execs_nil ⟨σ1, H2, I2, q2⟩
end
structure It where
  go : Nat → Hp → Prop
  yld : Nat → Hp → V → Hp → Prop
  stop : Nat → Hp → Prop
def FpOk (X : Cx) (pins : List (Addr × Obj)) (H : Hp) (b : Addr) : Prop :=
  H b = none ∧ b ≠ X.env.locals ∧ b ∉ X.fs ∧ (b ∈ X.ex ∨ X.s₀.heap.objs.size ≤ b) ∧ (∀ x c, X.env.cells.lookup x = some c → c ≠ b) ∧ ∀ p ∈ X.pn ++ pins, p.1 ≠ b
theorem Inv.fpOk {X : Cx} {pins : List (Addr × Obj)} {σ : St} {H H' : Hp} {s : Shared} {b : Addr} (I : Inv X pins σ H s) (hb : s.heap.objs.size ≤ b) (hn : H' b = none) : FpOk X pins H' b := by
  refine ⟨hn, Nat.ne_of_gt (Nat.lt_of_lt_of_le I.lt hb), I.nofs hb, .inr (Nat.le_trans I.sz hb), fun x c e z => ?_, fun p hp z => ?_⟩
  · obtain ⟨v, q⟩ := I.cell x c e
    exact absurd (Nat.lt_of_lt_of_le q.lt (by rw [z]; exact hb)) (Nat.lt_irrefl _)
  · exact absurd (Nat.lt_of_lt_of_le (Heap.lt_size (I.pin p hp).1) (by rw [z]; exact hb)) (Nat.lt_irrefl _)
structure Turn (P : Program) (w : World) (K : Fg) (tg : Expr) (J : It) (fp : List Addr) (it : Addr) (tn : Nat → Heap → Prop) : Prop where
  mem : it ∈ fp
  obj : ∀ i h, tn i h → ∀ b ∈ fp, ∃ o, h.get? b = some o ∧ ∀ v, o.data ≠ .cell v
  keep : ∀ i h h', tn i h → (∀ b ∈ fp, ∀ o, h.get? b = some o → h'.get? b = some o) → tn i h'
  item : ∀ (X : Cx), X.prog = P → X.w = w → X.K = K → X.calm = true → ∀ (i : Nat) (pins : List (Addr × Obj)) (s : Shared) (σ : St) (H : Hp) (E : Value → Shared → Prop), Inv X pins σ H s → (∀ b ∈ fp, FpOk X pins H b) → tn i s.heap → J.go i H →
    wpAny (model P w) X.A (pyNext (.ref it)) (fun r s1 => ∃ u, r = some u ∧
      wpAny (model P w) X.A (letOwnedTupleGo tg (.ref it) u) (fun _ s2 => ∃ x H', Inv X pins σ H' s2 ∧ RelV x u ∧ J.yld i H x H' ∧ tn (i + 1) s2.heap ∧ ∀ b ∈ fp, H' b = none) E s1) E s
  done : ∀ (X : Cx), X.prog = P → X.w = w → X.K = K → X.calm = true → ∀ (i : Nat) (pins : List (Addr × Obj)) (s : Shared) (σ : St) (H : Hp) (E : Value → Shared → Prop), Inv X pins σ H s → (∀ b ∈ fp, FpOk X pins H b) → tn i s.heap → J.stop i H →
    wpAny (model P w) X.A (pyNext (.ref it)) (fun r s1 => r = none ∧ Inv X pins σ H s1) E s
  self : ∀ (A : Around) (i : Nat) (s : Shared) (Q : Value → Shared → Prop) (E : Value → Shared → Prop), tn i s.heap → Q (.ref it) s → wpAny (model P w) A (pyIter (.ref it)) Q E s
abbrev TI := St → Hp → (It → Hp → Prop) → Prop
def PIE (X : Cx) (pins : List (Addr × Obj)) (σ : St) (tg : Expr) (R : It → Hp → Prop) (itv : Value) (s2 : Shared) : Prop :=
  ∃ (it : Addr) (fp : List Addr) (tn : Nat → Heap → Prop) (J : It) (H' : Hp), itv = .ref it ∧ Inv X pins σ H' s2 ∧ Turn X.prog X.w X.K tg J fp it tn ∧ tn 0 s2.heap ∧ (∀ b ∈ fp, FpOk X pins H' b) ∧ R J H'
def PI (X : Cx) (tg iter : Expr) (wi : TI) : Prop :=
  ∀ (pins : List (Addr × Obj)) (s : Shared) (σ : St) (H : Hp) (R : It → Hp → Prop), Inv X pins σ H s → wi σ H R →
    wpAny (model X.prog X.w) X.A (eval iter X.env) (fun v s1 => wpAny (model X.prog X.w) X.A (pyIter v) (PIE X pins σ tg R) X.xe s1) X.xe s
theorem go_of {M : Model} {A : Around} {E : Value → Shared → Prop} {s : Shared} {tg : Expr} {it : Addr} {u : Value} {o : Obj} {n : String} {vs : Array Value} {Q : Unit → Shared → Prop} (ho : s.heap.get? it = some o) (hc : o.cls = .type n) (hd : o.data = .fields vs)
    (hn : ["enumerate", "zip", "dict_itemiterator", "dict_reverseitemiterator", "odict_iterator", "itertools.zip_longest", "itertools.pairwise"].contains n = false) (hQ : Q () s) : wpAny M A (letOwnedTupleGo tg (.ref it) u) Q E s := by
  unfold letOwnedTupleGo
  cases tg <;> first
    | exact wpAny_pure hQ
    | (cases u <;> first
        | exact wpAny_pure hQ
        | (refine wpAny_bind (wpAny_load ho ?_)
           rw [hc, hd]
           show wpAny M A (if (["enumerate", "zip", "dict_itemiterator", "dict_reverseitemiterator", "odict_iterator", "itertools.zip_longest", "itertools.pairwise"].contains n && vs[0]? == some (rawInt _)) = true then _ else _) Q E s
           rw [if_neg (by intro h; rw [hn, Bool.false_and] at h; cases h)]
           exact wpAny_pure hQ))
def Itl (K : Fg) (a : Addr) : It :=
  ⟨fun i H => ∃ xs x, SqL K H a xs ∧ xs[i]? = some x, fun i H x H' => H' = H ∧ ∀ xs, SqL K H a xs → xs[i]? = some x, fun i H => ∃ xs, SqL K H a xs ∧ xs.length ≤ i⟩
def Itt (K : Fg) (a : Addr) : It :=
  ⟨fun i H => ∃ xs x, SqT K H a xs ∧ xs[i]? = some x, fun i H x H' => H' = H ∧ ∀ xs, SqT K H a xs → xs[i]? = some x, fun i H => ∃ xs, SqT K H a xs ∧ xs.length ≤ i⟩
def Itr (lo : Int) (n : Nat) : It := ⟨fun i _ => i < n, fun i H x H' => H' = H ∧ x = .int (lo + i), fun i _ => n ≤ i⟩
theorem turn_list {P : Program} {w : World} {K : Fg} {tg : Expr} (a it : Addr) : Turn P w K tg (Itl K a) [it] it (fun i h => h.IsListIter it a i) where
  mem := by simp
  obj := fun i h st b hb => by
    have e : b = it := by simpa using hb
    subst e
    obtain ⟨o, e, c, d⟩ := st
    exact ⟨o, e, fun v z => by rw [d] at z; cases z⟩
  keep := fun i h h' st k => st.at fun o e => k it (by simp) o e
  item := by
    intro X hP hw hK hc i pins s σ H E I hf st hg
    subst hP hw hK
    obtain ⟨xs, x, hq, hx⟩ := hg
    obtain ⟨its, rv, p, hz⟩ := I.list hq
    obtain ⟨u, hu, ru⟩ := rv.get hx
    obtain ⟨f0, f1, f2, f3, f4, f5⟩ := hf it (by simp)
    refine wpAny_pyNext_list_item st p.isList (x := u) (by simpa using hu) fun h' st' sb => ?_
    have I1 : Inv X pins σ H { s with heap := h' } := I.turned (t' := s.toks) (fun b o hb e => (sb.2 b hb).trans e) f0 f1 f3 f4 f5
    obtain ⟨o, e, c, d⟩ := id st'
    exact ⟨u, rfl, go_of (s := { s with heap := h' }) e c d (by decide) ⟨x, H, I1, ru, ⟨rfl, fun ys hy => by rw [I.list_inj hy hq]; exact hx⟩, st', fun b hb => (hf b hb).1⟩⟩
  done := by
    intro X hP hw hK hc i pins s σ H E I hf st hg
    subst hP hw hK
    obtain ⟨xs, hq, hx⟩ := hg
    obtain ⟨its, rv, p, hz⟩ := I.list hq
    obtain ⟨f0, f1, f2, f3, f4, f5⟩ := hf it (by simp)
    have hl := rv.length
    exact wpAny_pyNext_list_end (I.ok.hd hc) st p.isList (by simp; omega) fun h' eb => ⟨rfl, I.turned (t' := s.toks) (fun b o hb e => eb b o hb e) f0 f1 f3 f4 f5⟩
  self := fun _ _ _ _ _ st h => wpAny_pyIter_listiter st h
theorem turn_tuple {P : Program} {w : World} {K : Fg} {tg : Expr} (a it : Addr) : Turn P w K tg (Itt K a) [it] it (fun i h => h.IsTupleIter it a i) where
  mem := by simp
  obj := fun i h st b hb => by
    have e : b = it := by simpa using hb
    subst e
    obtain ⟨o, e, c, d⟩ := st
    exact ⟨o, e, fun v z => by rw [d] at z; cases z⟩
  keep := fun i h h' st k => st.at fun o e => k it (by simp) o e
  item := by
    intro X hP hw hK hc i pins s σ H E I hf st hg
    subst hP hw hK
    obtain ⟨xs, x, hq, hx⟩ := hg
    obtain ⟨its, rv, p, hz⟩ := I.tuple hq
    obtain ⟨u, hu, ru⟩ := rv.get hx
    obtain ⟨f0, f1, f2, f3, f4, f5⟩ := hf it (by simp)
    refine wpAny_pyNext_tuple_item st (show s.heap.IsTuple a its.toArray from p) (x := u) (by simpa using hu) fun h' st' sb => ?_
    have I1 : Inv X pins σ H { s with heap := h' } := I.turned (t' := s.toks) (fun b o hb e => (sb.2 b hb).trans e) f0 f1 f3 f4 f5
    obtain ⟨o, e, c, d⟩ := id st'
    exact ⟨u, rfl, go_of (s := { s with heap := h' }) e c d (by decide) ⟨x, H, I1, ru, ⟨rfl, fun ys hy => by rw [I.tuple_inj hy hq]; exact hx⟩, st', fun b hb => (hf b hb).1⟩⟩
  done := by
    intro X hP hw hK hc i pins s σ H E I hf st hg
    subst hP hw hK
    obtain ⟨xs, hq, hx⟩ := hg
    obtain ⟨its, rv, p, hz⟩ := I.tuple hq
    obtain ⟨f0, f1, f2, f3, f4, f5⟩ := hf it (by simp)
    have hl := rv.length
    exact wpAny_pyNext_tuple_end (I.ok.hd hc) st (show s.heap.IsTuple a its.toArray from p) (by simp; omega) fun h' eb => ⟨rfl, I.turned (t' := s.toks) (fun b o hb e => eb b o hb e) f0 f1 f3 f4 f5⟩
  self := fun _ _ _ _ _ st h => wpAny_pyIter_tupleiter st h
theorem turn_range {P : Program} {w : World} {K : Fg} {tg : Expr} (it : Addr) (lo : Int) (n : Nat) : Turn P w K tg (Itr lo n) [it] it (fun i h => IsRangeIter h it (lo + (i : Nat) * 1) ((n : Int) - (i : Nat)) 1) where
  mem := by simp
  obj := fun i h st b hb => by
    have e : b = it := by simpa using hb
    subst e
    exact ⟨_, st, fun v z => by
      have z' : Data.fields _ = Data.cell v := z
      cases z'⟩
  keep := fun i h h' st k => k it (by simp) _ st
  item := by
    intro X hP hw hK hc i pins s σ H E I hf st hg
    subst hP hw hK
    obtain ⟨f0, f1, f2, f3, f4, f5⟩ := hf it (by simp)
    have W := Walks.range (prog := X.prog) (w := X.w) (I.ok.hd hc) it lo 1 n
    refine W.item i s _ _ hg st fun v h' tk hv st' kk => ?_
    obtain ⟨t, rfl⟩ := hv
    have I1 : Inv X pins σ H { s with heap := h', toks := tk } := I.turned (fun b o hb e => kk b o (by simpa using hb) e) f0 f1 f3 f4 f5
    refine ⟨_, rfl, go_of (s := { s with heap := h', toks := tk }) (n := "range_iterator") st' rfl rfl (by decide) ⟨.int (lo + i), H, I1, ⟨t, ?_⟩, ⟨rfl, rfl⟩, st', fun b hb => (hf b hb).1⟩⟩
    rw [Int.mul_one]
  done := by
    intro X hP hw hK hc i pins s σ H E I hf st hg
    subst hP hw hK
    obtain ⟨f0, f1, f2, f3, f4, f5⟩ := hf it (by simp)
    exact wpAny_pyNext_range_end (I.ok.hd hc) st (by have : n ≤ i := hg; omega) fun h' eb => ⟨rfl, I.turned (t' := s.toks) (fun b o hb e => eb b o hb e) f0 f1 f3 f4 f5⟩
  self := fun _ _ _ _ _ st h => wpAny_pyIter_rangeiter st h
end L2
namespace L2
open PySem PySem.Spec PyProof.Rows
section
variable {X : Cx} {tg : Expr}
theorem range_it {pins : List (Addr × Obj)} {σ : St} {H : Hp} {s : Shared} {R : It → Hp → Prop} {E : Value → Shared → Prop} {lo hi : Int} {t u v : Tok} {tk : Nat} (I : Inv X pins σ H s) (h1 : -(2 ^ 62) ≤ lo) (h2 : lo < 2 ^ 62) (h3 : -(2 ^ 62) ≤ hi) (h4 : hi < 2 ^ 62)
    (q : R (Itr lo (hi - lo).toNat) H) : wpAny (model X.prog X.w) X.A (pyIter (.ref s.heap.objs.size)) (PIE X pins σ tg R) E { s with heap := s.heap.push { cls := .type "range", data := .fields #[.int lo t, .int hi u, .int 1 v] }, toks := tk } := by
  refine wpAny_pyIter_range (IsRange.new ..) (small_one h1 h2 h3 h4) ?_
  have I1 : Inv X pins σ H { s with heap := s.heap.push { cls := .type "range", data := .fields #[.int lo t, .int hi u, .int 1 v] }, toks := tk } := I.kept fun b o e => Heap.get?_push_of_some _ e
  refine ⟨(s.heap.push { cls := .type "range", data := .fields #[.int lo t, .int hi u, .int 1 v] }).objs.size, [(s.heap.push { cls := .type "range", data := .fields #[.int lo t, .int hi u, .int 1 v] }).objs.size], _, _, H, rfl,
    I1.kept (t' := tk) fun b o e => Heap.get?_push_of_some _ e, turn_range _ lo (hi - lo).toNat, ?_, fun b hb => ?_, q⟩
  · have e1 : lo + ((0 : Nat) : Int) * 1 = lo := by simp
    have e2 : (((hi - lo).toNat : Nat) : Int) - ((0 : Nat) : Int) = Builtin.Range.rangeSize lo hi 1 := by rw [rangeSize_one]; split <;> omega
    show IsRangeIter _ _ (lo + ((0 : Nat) : Int) * 1) ((((hi - lo).toNat : Nat) : Int) - ((0 : Nat) : Int)) 1
    rw [e1, e2]
    exact Heap.get?_push_size _ rfl
  · have e : b = (s.heap.push { cls := .type "range", data := .fields #[.int lo t, .int hi u, .int 1 v] }).objs.size := by simpa using hb
    subst e
    exact I1.fpOk (Nat.le_refl _) (I1.hok.fresh (Nat.le_refl _))
def iRng1 (ta : TA) : TI := fun σ H R => ta σ H fun vs H1 => ∃ j : Int, vs = [.int j] ∧ -(2 ^ 62) ≤ j ∧ j < 2 ^ 62 ∧ R (Itr 0 j.toNat) H1
theorem pi_range1 {a : Expr} {ta : TA} {p pos : Pos} (hg : Gl X "range") (hm : X.mg "range" = none) (ha : PA X [a] ta) (hs : starEach [a] X.env = [(false, eval a X.env)] := by rfl) : PI X tg (.Call (.Name "range" p) [a] [] pos) (iRng1 ta) := by
  intro pins s σ H R I h
  refine Call_ (ld_blt I hg hm boot_range (PyProof.Rows.callWith_type1 (thn (ha pos pins s σ H _ I h) fun us s1 ⟨vs, H1, I1, r1, q1⟩ => ?_) hs rfl))
  obtain ⟨j, e, q1, q2, q⟩ := q1
  subst e
  cases r1 with
  | cons r rr =>
    cases rr
    obtain ⟨t, rfl⟩ := r
    exact call_range_1 (range_it I1 (by omega) (by omega) q1 q2 (by simpa using q))
def tFor (wi : TI) (g : TG) (tb : TS) : TS := fun D σ H => wi σ H fun J H1 => ∃ W : Nat → Nat → St → Hp → Prop, (∃ m, W 0 m σ H1) ∧ ∀ i m σ H, W i m σ H →
  (J.stop i H ∧ D.nx σ H) ∨ (J.go i H ∧ ∃ N : St → Hp → Prop, (∀ σ' H', N σ' H' → ∃ m', m' < m ∧ W (i + 1) m' σ' H') ∧ ∀ x H', J.yld i H x H' → g x σ H' fun σ2 H2 => tb { D with nx := N, ct := N, bk := D.nx } σ2 H2)
def pinsAt (fp : List Addr) (h : Heap) : List (Addr × Obj) := fp.filterMap fun b => (h.get? b).map fun o => (b, o)
theorem mem_pinsAt {fp : List Addr} {h : Heap} {b : Addr} {o : Obj} (hb : b ∈ fp) (e : h.get? b = some o) : (b, o) ∈ pinsAt fp h := List.mem_filterMap.mpr ⟨b, hb, by rw [e]; rfl⟩
theorem of_pinsAt {fp : List Addr} {h : Heap} {p : Addr × Obj} (hp : p ∈ pinsAt fp h) : p.1 ∈ fp ∧ h.get? p.1 = some p.2 := by
  obtain ⟨b, hb, e⟩ := List.mem_filterMap.mp hp
  cases q : h.get? b with
  | none => rw [q] at e; cases e
  | some o =>
    rw [q] at e
    have e' : (b, o) = p := Option.some.inj e
    subst e'
    exact ⟨hb, q⟩
theorem Inv.pinned {pins : List (Addr × Obj)} {σ : St} {H : Hp} {s : Shared} {fp : List Addr} (I : Inv X pins σ H s) (hf : ∀ b ∈ fp, FpOk X pins H b) (ho : ∀ b ∈ fp, ∃ o, s.heap.get? b = some o ∧ ∀ v, o.data ≠ .cell v) : Inv X (pins ++ pinsAt fp s.heap) σ H s :=
  I.pins_of fun p hp => (List.mem_append.mp hp).elim (fun z => I.pin p (List.mem_append_right _ z)) fun z => by
    obtain ⟨hb, e⟩ := of_pinsAt z
    obtain ⟨f0, f1, f2, _⟩ := hf p.1 hb
    obtain ⟨o, e', d⟩ := ho p.1 hb
    rw [e] at e'; cases e'
    exact ⟨e, f0, f1, f2, d⟩
theorem Inv.unpinned {pins pl : List (Addr × Obj)} {σ : St} {H : Hp} {s : Shared} (I : Inv X (pins ++ pl) σ H s) : Inv X pins σ H s := I.pins_of fun p hp => I.pin p (List.mem_append_right _ (List.mem_append_left _ hp))
theorem ps_for {iter : Expr} {body : List Stmt} {wi : TI} {g : TG} {tb : TS} {pos : Pos} (hp : PassesOwn (model X.prog X.w) X.A X.env X.xe) (hc : X.calm = true) (hi : PI X tg iter wi) (hg : PG X tg g) (hb : PSs X body tb)
    (hs : ∀ x, foldedSetIterable iter X.env x = pure x := by intro _; rfl) : PS X (.For tg iter body [] pos) (tFor wi g tb) := by
  intro pins s σ H D I h
  refine wpAny_For (thn (hi pins s σ H _ I h) fun v s1 h1 => thn h1 fun itv s2 h2 => ?_) hs
  obtain ⟨it, fp, tn, J, H2, e, I2, T, st2, f2, W, ⟨m0, w0⟩, turn⟩ := h2
  subst e
  have stat : ∀ {H' : Hp}, (∀ b ∈ fp, H' b = none) → ∀ b ∈ fp, FpOk X pins H' b := fun hn b hb => ⟨hn b hb, (f2 b hb).2⟩
  refine codeAny_forLoop_any (fun n s' => ∃ i σ' H', Inv X pins σ' H' s' ∧ tn i s'.heap ∧ (∀ b ∈ fp, H' b = none) ∧ W i n σ' H') ?_ m0 ⟨0, σ, H2, I2, st2, fun b hb => (f2 b hb).1, w0⟩
  rintro n s3 ⟨i, σ3, H3, I3, st3, fr3, w3⟩
  rcases turn i n σ3 H3 w3 with ⟨stop, qn⟩ | ⟨go, N, hN, step⟩
  · refine wpAny_passesOwn hp (thn (T.done X rfl rfl rfl hc i pins s3 σ3 H3 X.xe I3 (stat fr3) st3 stop) fun r s4 ⟨hr, I4⟩ => ?_)
    subst hr
    exact wpAny_execs_nil ⟨σ3, H3, I4, qn⟩
  · refine wpAny_passesOwn hp (thn (T.item X rfl rfl rfl hc i pins s3 σ3 H3 X.xe I3 (stat fr3) st3 go) fun r s4 ⟨u, hr, h4⟩ => ?_)
    subst hr
    refine wpAny_passesOwn hp (thn h4 fun _ s5 ⟨x, H5, I5, r5, y5, st5, fr5⟩ => ?_)
    have I5' := I5.pinned (stat fr5) (T.obj _ _ st5)
    refine wpAny_passesOwn hp (thn (hg _ s5 σ3 H5 x u _ I5' r5 (step x H5 y5)) fun _ s6 ⟨σ6, H6, I6, q6⟩ => ?_)
    refine wpAny_passesOwn hp (thn (hb _ s6 σ6 H6 _ I6 q6) fun f s7 q7 => ?_)
    have again : ∀ {σ7 : St} {H7 : Hp}, Inv X (pins ++ pinsAt fp s5.heap) σ7 H7 s7 → N σ7 H7 → ∃ m, m < n ∧ ∃ i σ' H', Inv X pins σ' H' s7 ∧ tn i s7.heap ∧ (∀ b ∈ fp, H' b = none) ∧ W i m σ' H' := fun {σ7 H7} I7 n7 => by
      obtain ⟨m', hm, w7⟩ := hN σ7 H7 n7
      refine ⟨m', hm, i + 1, σ7, H7, I7.unpinned, T.keep _ _ _ st5 fun b hb o e => (I7.pin (b, o) (List.mem_append_right _ (List.mem_append_right _ (mem_pinsAt hb e)))).1, fun b hb => ?_, w7⟩
      obtain ⟨o, e, d⟩ := T.obj _ _ st5 b hb
      exact (I7.pin (b, o) (List.mem_append_right _ (List.mem_append_right _ (mem_pinsAt hb e)))).2.1
    cases f with
    | next => obtain ⟨σ7, H7, I7, n7⟩ := q7; exact again I7 n7
    | cont => obtain ⟨σ7, H7, I7, n7⟩ := q7; exact again I7 n7
    | brk => obtain ⟨σ7, H7, I7, q7⟩ := q7; exact ⟨σ7, H7, I7.unpinned, q7⟩
    | ret v => obtain ⟨x7, σ7, H7, I7, r7, q7⟩ := q7; exact ⟨x7, σ7, H7, I7.unpinned, r7, q7⟩
end
end L2
namespace L2
open PySem PySem.Spec PyProof.Rows
abbrev R2 := V → V → Hp → VK → Prop
def OpR (X : Cx) (f : Value → Value → Sem Value) (r : R2) : Prop :=
  ∀ (pins : List (Addr × Obj)) (s : Shared) (σ : St) (H : Hp) (x y : V) (v u : Value) (Q : VK), Inv X pins σ H s → RelV x v → RelV y u → r x y H Q →
    wpAny (model X.prog X.w) X.A (f v u) (EP X pins σ Q) X.xe s
def UnR (X : Cx) (f : Value → Sem Value) (r : V → Hp → VK → Prop) : Prop :=
  ∀ (pins : List (Addr × Obj)) (s : Shared) (σ : St) (H : Hp) (x : V) (v : Value) (Q : VK), Inv X pins σ H s → RelV x v → r x H Q →
    wpAny (model X.prog X.w) X.A (f v) (EP X pins σ Q) X.xe s
def CallR (X : Cx) (f : Value) (r : List V → Hp → VK → Prop) : Prop :=
  ∀ (pins : List (Addr × Obj)) (s : Shared) (σ : St) (H : Hp) (xs : List V) (us : List Value) (Q : VK), Inv X pins σ H s → Vals xs us → r xs H Q →
    wpAny (model X.prog X.w) X.A (call f us) (EP X pins σ Q) X.xe s
def TruR (X : Cx) (r : V → Hp → (Bool → Hp → Prop) → Prop) : Prop :=
  ∀ (pins : List (Addr × Obj)) (s : Shared) (σ : St) (H : Hp) (x : V) (v : Value) (Q : Bool → Hp → Prop), Inv X pins σ H s → RelV x v → r x H Q →
    wpAny (model X.prog X.w) X.A (truthy v) (TP X pins σ Q) X.xe s
def tOp (r : R2) (ta tb : TE) : TE := fun σ H Q => ta σ H fun x H1 => tb σ H1 fun y H2 => r x y H2 Q
def tUn (r : V → Hp → VK → Prop) (ta : TE) : TE := fun σ H Q => ta σ H fun x H1 => r x H1 Q
def rI (C : Int → Int → Prop) (g : Int → Int → V) : R2 := fun x y H Q => ∃ i j, x = .int i ∧ y = .int j ∧ C i j ∧ Q (g i j) H
def rI0 (g : Int → Int → V) : R2 := fun x y H Q => ∃ i j, x = .int i ∧ y = .int j ∧ Q (g i j) H
def rU (g : Int → V) : V → Hp → VK → Prop := fun x H Q => ∃ i, x = .int i ∧ Q (g i) H
section
variable {X : Cx} {a b c : Expr} {ta tb tc : TE} {pos : Pos}
theorem binT (ha : PE X a ta) (hb : PE X b tb) {pins : List (Addr × Obj)} {s : Shared} {σ : St} {H : Hp} {R : V → V → Hp → Prop} (I : Inv X pins σ H s)
    (h : ta σ H fun x H1 => tb σ H1 fun y H2 => R x y H2) {Q : Value → Shared → Prop} {f : Value → Value → Sem Value}
    (hf : ∀ v u s2 x y H2, Inv X pins σ H2 s2 → RelV x v → RelV y u → R x y H2 → wpAny (model X.prog X.w) X.A (f v u) Q X.xe s2) :
    wpAny (model X.prog X.w) X.A (eval a X.env) (fun v s₁ => wpAny (model X.prog X.w) X.A (eval b X.env) (fun u s₂ => wpAny (model X.prog X.w) X.A (f v u) Q X.xe s₂) X.xe s₁) X.xe s := by
  refine thn (ha pins s σ H _ I h) fun v s1 ⟨x, H1, I1, r1, q1⟩ => ?_
  refine thn (hb pins s1 σ H1 _ I1 q1) fun u s2 ⟨y, H2, I2, r2, q2⟩ => ?_
  exact hf v u s2 x y H2 I2 r1 r2 q2
theorem pe_op {op : Operator} {r : R2} (ho : OpR X (binaryOp op) r) (ha : PE X a ta) (hb : PE X b tb) : PE X (.BinOp a op b pos) (tOp r ta tb) := by
  intro pins s σ H Q I h
  exact wpAny_BinOp (binT ha hb I h fun v u s2 x y H2 I2 rx ry q => ho pins s2 σ H2 x y v u Q I2 rx ry q)
theorem pe_un {op : UnaryOp} {r : V → Hp → VK → Prop} (ho : UnR X (unaryOp op) r) (ha : PE X a ta) : PE X (.UnaryOp op a pos) (tUn r ta) := by
  intro pins s σ H Q I h
  exact UnaryOp_ (thn (ha pins s σ H _ I h) fun v s1 ⟨x, H1, I1, r1, q1⟩ => ho pins s1 σ H1 x v Q I1 r1 q1)
theorem opI {f : Value → Value → Sem Value} {C : Int → Int → Prop} {g : Int → Int → Int}
    (rule : ∀ (i j : Int) (t u : Tok) (s : Shared) (Q : Value → Shared → Prop) (E : Value → Shared → Prop), C i j → Q (.int (g i j) s.toks) { s with toks := s.toks + 1 } → wpAny (model X.prog X.w) X.A (f (.int i t) (.int j u)) Q E s) :
    OpR X f (rI C fun i j => .int (g i j)) := by
  intro pins s σ H x y v u Q I rx ry h
  obtain ⟨i, j, rfl, rfl, hc, q⟩ := h
  obtain ⟨t, rfl⟩ := rx
  obtain ⟨t', rfl⟩ := ry
  exact rule i j t t' s _ _ hc ⟨.int (g i j), H, I.tok _, ⟨_, rfl⟩, q⟩
theorem opI0 {f : Value → Value → Sem Value} {g : Int → Int → Int}
    (rule : ∀ (i j : Int) (t u : Tok) (s : Shared) (Q : Value → Shared → Prop) (E : Value → Shared → Prop), Q (.int (g i j) s.toks) { s with toks := s.toks + 1 } → wpAny (model X.prog X.w) X.A (f (.int i t) (.int j u)) Q E s) :
    OpR X f (rI0 fun i j => .int (g i j)) := by
  intro pins s σ H x y v u Q I rx ry h
  obtain ⟨i, j, rfl, rfl, q⟩ := h
  obtain ⟨t, rfl⟩ := rx
  obtain ⟨t', rfl⟩ := ry
  exact rule i j t t' s _ _ ⟨.int (g i j), H, I.tok _, ⟨_, rfl⟩, q⟩
theorem opB0 {f : Value → Value → Sem Value} {g : Int → Int → Bool}
    (rule : ∀ (i j : Int) (t u : Tok) (s : Shared) (Q : Value → Shared → Prop) (E : Value → Shared → Prop), Q (.bool (g i j)) s → wpAny (model X.prog X.w) X.A (f (.int i t) (.int j u)) Q E s) :
    OpR X f (rI0 fun i j => .bl (g i j)) := by
  intro pins s σ H x y v u Q I rx ry h
  obtain ⟨i, j, rfl, rfl, q⟩ := h
  obtain ⟨t, rfl⟩ := rx
  obtain ⟨t', rfl⟩ := ry
  exact rule i j t t' s _ _ ⟨.bl (g i j), H, I, rfl, q⟩
def CDiv (i j : Int) : Prop := 0 < j ∧ j < 1073741824
def CPow (i j : Int) : Prop := 0 ≤ j ∧ j ≤ 1000000 ∧ i.natAbs < 2 ^ 64
def CMul (i j : Int) : Prop := (-(2 ^ 64) < i ∧ i < 2 ^ 64) ∨ (-(2 ^ 64) < j ∧ j < 2 ^ 64)
theorem CMul.ok {i j : Int} (h : CMul i j) : IntMulOk i j := by
  rcases h with ⟨h1, h2⟩ | ⟨h1, h2⟩
  · exact .of_left (intBits_le_64 h1 h2)
  · exact .of_right (intBits_le_64 h1 h2)
theorem op_add : OpR X (binaryOp .Add) (rI0 fun i j => .int (i + j)) := opI0 fun _ _ _ _ _ _ _ q => add_int q
theorem op_sub : OpR X (binaryOp .Sub) (rI0 fun i j => .int (i - j)) := opI0 fun _ _ _ _ _ _ _ q => sub_int q
theorem op_mul : OpR X (binaryOp .Mult) (rI CMul fun i j => .int (i * j)) := opI fun _ _ _ _ _ _ _ hc q => mul_int q hc.ok
theorem op_fdiv : OpR X (binaryOp .FloorDiv) (rI CDiv fun i j => .int (i / j)) := opI fun i j _ _ _ _ _ hc q => by
  have h1 : (0 : Int) < j := hc.1
  have h2 : j < 1073741824 := hc.2
  exact floordiv_int (by omega) (by rw [Int.fdiv_eq_ediv_of_nonneg i (by omega)]; exact q) (.inl (PyProof.noPylong_small (by omega)))
theorem op_mod : OpR X (binaryOp .Mod) (rI (fun _ j => 0 < j) fun i j => .int (i % j)) := opI fun i j _ _ _ _ _ hc q => by
  have h1 : (0 : Int) < j := hc
  exact mod_int' (by omega) (by rw [Int.fmod_eq_emod_of_nonneg i (by omega)]; exact q)
theorem op_pow : OpR X (binaryOp .Pow) (rI CPow fun i j => .int (i ^ j.toNat)) := opI fun _ _ _ _ _ _ _ hc q => pow_int_small hc.1 hc.2.1 hc.2.2 q
theorem unI {f : Value → Sem Value} {g : Int → Int}
    (rule : ∀ (i : Int) (t : Tok) (s : Shared) (Q : Value → Shared → Prop) (E : Value → Shared → Prop), Q (.int (g i) s.toks) { s with toks := s.toks + 1 } → wpAny (model X.prog X.w) X.A (f (.int i t)) Q E s) :
    UnR X f (rU fun i => .int (g i)) := by
  intro pins s σ H x v Q I rx h
  obtain ⟨i, rfl, q⟩ := h
  obtain ⟨t, rfl⟩ := rx
  exact rule i t s _ _ ⟨.int (g i), H, I.tok _, ⟨_, rfl⟩, q⟩
theorem un_neg : UnR X (unaryOp .USub) (rU fun i => .int (-i)) := unI fun _ _ _ _ _ q => neg_int q
end
def scal : V → V → Bool
  | .non, .non => true | .non, .int _ => true | .int _, .non => true | .non, .bl _ => true | .bl _, .non => true | .non, .str _ => true | .str _, .non => true
  | .int _, .int _ => true | .bl _, .bl _ => true | .str _, .str _ => true | .byt _, .byt _ => true
  | .int _, .str _ => true | .str _, .int _ => true | .bl _, .str _ => true | .str _, .bl _ => true
  | _, _ => false
def rEq : R2 := fun x y H Q => scal x y = true ∧ Q (.bl (decide (x = y))) H
def rNe : R2 := fun x y H Q => scal x y = true ∧ Q (.bl (!decide (x = y))) H
theorem dec_int {i j : Int} : decide (V.int i = V.int j) = (i == j) := by
  rw [Bool.eq_iff_iff]
  simp
theorem dec_bl {i j : Bool} : decide (V.bl i = V.bl j) = (i == j) := by
  rw [Bool.eq_iff_iff]
  simp
theorem dec_str {i j : Str} : decide (V.str i = V.str j) = (i == j) := by
  rw [Bool.eq_iff_iff]
  simp
theorem dec_byt {i j : Array UInt8} : decide (V.byt i = V.byt j) = (i.toList == j.toList) := by
  rw [Bool.eq_iff_iff]
  cases i
  cases j
  simp
section
variable {X : Cx} {a b c : Expr} {ta tb tc : TE} {pos : Pos}
theorem fin_bl {pins : List (Addr × Obj)} {σ : St} {H : Hp} {s : Shared} {Q : VK} {k k' : Bool} (I : Inv X pins σ H s) (q : Q (.bl k) H) (e : k = k') : EP X pins σ Q (.bool k') s := by
  subst e
  exact ⟨.bl k, H, I, rfl, q⟩
theorem op_eq : OpR X (compareOp .Eq) rEq := by
  intro pins s σ H x y v u Q I rx ry h
  obtain ⟨hs, q⟩ := h
  cases x with
  | non =>
    cases rx
    cases y with
    | non => cases ry; exact PySem.EqNone.eq_none_none (fin_bl I q (by simp))
    | bl j => cases ry; exact PySem.EqNone.eq_none_bool (fin_bl I q (by simp))
    | int j => obtain ⟨t', rfl⟩ := ry; exact PySem.EqNone.eq_none_int (fin_bl I q (by simp))
    | str j => obtain ⟨t', rfl⟩ := ry; exact PySem.EqNone.eq_none_str (fin_bl I q (by simp))
    | _ => exact absurd (show false = true from hs) Bool.false_ne_true
  | bl i =>
    cases rx
    cases y with
    | non => cases ry; exact PySem.EqNone.eq_bool_none (fin_bl I q (by simp))
    | bl j => cases ry; exact eq_bool (fin_bl I q dec_bl)
    | str j => obtain ⟨t', rfl⟩ := ry; exact PySem.EqMixed.eq_bool_str (fin_bl I q (by simp))
    | _ => exact absurd (show false = true from hs) Bool.false_ne_true
  | int i =>
    obtain ⟨t, rfl⟩ := rx
    cases y with
    | non => cases ry; exact PySem.EqNone.eq_int_none (fin_bl I q (by simp))
    | int j => obtain ⟨t', rfl⟩ := ry; exact eq_int (fin_bl I q dec_int)
    | str j => obtain ⟨t', rfl⟩ := ry; exact PySem.EqMixed.eq_int_str (fin_bl I q (by simp))
    | _ => exact absurd (show false = true from hs) Bool.false_ne_true
  | str i =>
    obtain ⟨t, rfl⟩ := rx
    cases y with
    | non => cases ry; exact PySem.EqNone.eq_str_none (fin_bl I q (by simp))
    | bl j => cases ry; exact PySem.EqMixed.eq_str_bool (fin_bl I q (by simp))
    | int j => obtain ⟨t', rfl⟩ := ry; exact PySem.EqMixed.eq_str_int (fin_bl I q (by simp))
    | str j => obtain ⟨t', rfl⟩ := ry; exact eq_str (fin_bl I q dec_str)
    | _ => exact absurd (show false = true from hs) Bool.false_ne_true
  | byt i =>
    obtain ⟨t, rfl⟩ := rx
    cases y with
    | byt j => obtain ⟨t', rfl⟩ := ry; exact PySem.W.eq_bytes (fin_bl I q dec_byt)
    | _ => exact absurd (show false = true from hs) Bool.false_ne_true
  | _ => cases y <;> exact absurd (show false = true from hs) Bool.false_ne_true
theorem op_ne : OpR X (compareOp .NotEq) rNe := by
  intro pins s σ H x y v u Q I rx ry h
  obtain ⟨hs, q⟩ := h
  cases x with
  | non =>
    cases rx
    cases y with
    | non => cases ry; exact PySem.EqNone.ne_none_none (fin_bl I q (by simp))
    | bl j => cases ry; exact PySem.EqNone.ne_none_bool (fin_bl I q (by simp))
    | int j => obtain ⟨t', rfl⟩ := ry; exact PySem.EqNone.ne_none_int (fin_bl I q (by simp))
    | str j => obtain ⟨t', rfl⟩ := ry; exact PySem.EqNone.ne_none_str (fin_bl I q (by simp))
    | _ => exact absurd (show false = true from hs) Bool.false_ne_true
  | bl i =>
    cases rx
    cases y with
    | non => cases ry; exact PySem.EqNone.ne_bool_none (fin_bl I q (by simp))
    | bl j => cases ry; exact ne_bool (fin_bl I q (congrArg not dec_bl))
    | str j => obtain ⟨t', rfl⟩ := ry; exact PySem.EqMixed.ne_bool_str (fin_bl I q (by simp))
    | _ => exact absurd (show false = true from hs) Bool.false_ne_true
  | int i =>
    obtain ⟨t, rfl⟩ := rx
    cases y with
    | non => cases ry; exact PySem.EqNone.ne_int_none (fin_bl I q (by simp))
    | int j => obtain ⟨t', rfl⟩ := ry; exact ne_int (fin_bl I q (congrArg not dec_int))
    | str j => obtain ⟨t', rfl⟩ := ry; exact PySem.EqMixed.ne_int_str (fin_bl I q (by simp))
    | _ => exact absurd (show false = true from hs) Bool.false_ne_true
  | str i =>
    obtain ⟨t, rfl⟩ := rx
    cases y with
    | non => cases ry; exact PySem.EqNone.ne_str_none (fin_bl I q (by simp))
    | bl j => cases ry; exact PySem.EqMixed.ne_str_bool (fin_bl I q (by simp))
    | int j => obtain ⟨t', rfl⟩ := ry; exact PySem.EqMixed.ne_str_int (fin_bl I q (by simp))
    | str j => obtain ⟨t', rfl⟩ := ry; exact ne_str (fin_bl I q (congrArg not dec_str))
    | _ => exact absurd (show false = true from hs) Bool.false_ne_true
  | byt i =>
    obtain ⟨t, rfl⟩ := rx
    cases y with
    | byt j => obtain ⟨t', rfl⟩ := ry; exact PySem.W.ne_bytes (fin_bl I q (congrArg not dec_byt))
    | _ => exact absurd (show false = true from hs) Bool.false_ne_true
  | _ => cases y <;> exact absurd (show false = true from hs) Bool.false_ne_true
theorem op_le : OpR X (compareOp .LtE) (rI0 fun i j => .bl (decide (i ≤ j))) := opB0 fun _ _ _ _ _ _ _ q => le_int q
theorem OpR.or {f : Value → Value → Sem Value} {r r' : R2} (h : OpR X f r) (h' : OpR X f r') : OpR X f (fun x y H Q => r x y H Q ∨ r' x y H Q) := by
  intro pins s σ H x y v u Q I rx ry q
  rcases q with q | q
  · exact h pins s σ H x y v u Q I rx ry q
  · exact h' pins s σ H x y v u Q I rx ry q
theorem nomark (b : Expr) {op : CmpOp} (h : op ≠ .In := by decide) (h2 : op ≠ .NotIn := by decide) : behindInMarks op b = false := by
  have e1 : (op == CmpOp.In) = false := by cases op <;> first | rfl | exact absurd rfl h
  have e2 : (op == CmpOp.NotIn) = false := by cases op <;> first | rfl | exact absurd rfl h2
  cases b <;> simp [behindInMarks, e1, e2]
theorem pe_cmpR {op : CmpOp} {r : R2} (ho : OpR X (compareOp op) r) (ha : PE X a ta) (hb : PE X b tb) (hm : behindInMarks op b = false) : PE X (.Compare a [op] [b] pos) (tOp r ta tb) := by
  intro pins s σ H Q I h
  exact wpAny_Compare1 (binT ha hb I h fun v u s2 x y H2 I2 rx ry q => ho pins s2 σ H2 x y v u Q I2 rx ry q) hm
def tTest (t : TE) : TT := fun σ H Q => t σ H fun x H' => ∃ k, x = .bl k ∧ Q k H'
theorem pt_cmpR {op : CmpOp} {r : R2} (ho : OpR X (compareOp op) r) (ha : PE X a ta) (hb : PE X b tb) (hm : behindInMarks op b = false) : PT X (.Compare a [op] [b] pos) (tTest (tOp r ta tb)) := by
  intro pins s σ H Q I h
  refine wpAny_isTrue_Compare1 (thn (ha pins s σ H _ I h) fun v s1 ⟨x, H1, I1, r1, q1⟩ => thn (hb pins s1 σ H1 _ I1 q1) fun u s2 ⟨y, H2, I2, r2, q2⟩ =>
    thn (ho pins s2 σ H2 x y v u _ I2 r1 r2 q2) fun c s3 ⟨z, H3, I3, r3, k, e, q3⟩ => ?_) hm
  subst e
  cases r3
  exact wpAny_truthy_bool ⟨H3, I3, q3⟩
def TruV (K : Fg) (x : V) (H : Hp) (k : Bool) : Prop :=
  match x with
  | .non => k = false
  | .bl b => k = b
  | .int i => k = (i != 0)
  | .str y => y.length ≤ sizeLine ∧ k = ((y.length : Int) != 0)
  | .byt y => y.size ≤ sizeLine ∧ k = ((y.size : Int) != 0)
  | .ref p => (∃ xs, SqL K H p xs ∧ k = !xs.isEmpty) ∨ (∃ xs, SqT K H p xs ∧ k = !xs.isEmpty) ∨ ∃ kvs, H p = some (.dK kvs) ∧ k = !kvs.isEmpty
  | _ => False
theorem isEmpty_kv {κ : Type} {kvs : List (κ × V)} {vs : List (κ × Value)} (r : KV kvs vs) : (!vs.isEmpty) = !kvs.isEmpty := by
  cases r <;> rfl
theorem isEmpty_of {xs : List V} {its : List Value} (r : Vals xs its) : (!its.toArray.isEmpty) = !xs.isEmpty := by
  cases r <;> simp
theorem line63 : (sizeLine : Nat) < 2 ^ 63 := by rw [sizeLine_eq]; decide
theorem tru_ok : TruR X (fun x H Q => ∃ k, TruV X.K x H k ∧ Q k H) := by
  intro pins s σ H x v Q I rx h
  obtain ⟨k, e, q⟩ := h
  have hl := line63
  have hs : sizeLine = 16777216 := sizeLine_eq
  cases x with
  | non =>
    cases rx
    have e' : k = false := e
    subst e'
    exact truthy_none ⟨H, I, q⟩
  | bl b =>
    cases rx
    have e' : k = b := e
    subst e'
    exact wpAny_truthy_bool ⟨H, I, q⟩
  | int i =>
    obtain ⟨t, rfl⟩ := rx
    have e' : k = (i != 0) := e
    subst e'
    exact PySem.P.truthy_int ⟨H, I, q⟩
  | str y =>
    obtain ⟨t, rfl⟩ := rx
    obtain ⟨hy, e'⟩ : y.length ≤ sizeLine ∧ k = ((y.length : Int) != 0) := e
    subst e'
    exact PySem.P.truthy_str (by omega) ⟨H, I.tok _, q⟩
  | byt y =>
    obtain ⟨t, rfl⟩ := rx
    obtain ⟨hy, e'⟩ : y.size ≤ sizeLine ∧ k = ((y.size : Int) != 0) := e
    subst e'
    exact PySem.W.truthy_bytes (by omega) ⟨H, I.tok _, q⟩
  | ref p =>
    cases rx
    have e' : (∃ xs, SqL X.K H p xs ∧ k = !xs.isEmpty) ∨ (∃ xs, SqT X.K H p xs ∧ k = !xs.isEmpty) ∨ ∃ kvs, H p = some (.dK kvs) ∧ k = !kvs.isEmpty := e
    rcases e' with ⟨xs, hx, e'⟩ | ⟨xs, hx, e'⟩ | ⟨kvs, hx, e'⟩
    · subst e'
      obtain ⟨its, r, pl, hz⟩ := I.list hx
      have hlen := r.length
      exact wpAny_truthy_list pl.isList (by simp only [List.size_toArray]; omega) ⟨H, I.tok _, by rw [isEmpty_of r]; exact q⟩
    · subst e'
      obtain ⟨its, r, pl, hz⟩ := I.tuple hx
      have hlen := r.length
      exact truthy_tuple pl (by simp only [List.size_toArray]; omega) ⟨H, I.tok _, by rw [isEmpty_of r]; exact q⟩
    · subst e'
      obtain ⟨hz, hS, vs, r, m⟩ : kvs.length ≤ sizeLine ∧ (p == sysModules) = false ∧ ∃ vs, KV kvs vs ∧ s.heap.DictOf (mixKind X.prog X.w) p vs := I.hok p _ hx
      have hlen : kvs.length = vs.length := Paired.length r
      exact wpAny_truthy_dict hS m (by omega) ⟨H, I.tok _, by rw [isEmpty_kv r]; exact q⟩
  | _ => exact (show False from e).elim
theorem pt_truth (ha : PE X a ta) (he : ∀ whole, isTrue a X.env whole = (do let v ← whole; standAt a.pos; holding [v] (truthy v))) :
    PT X a (fun σ H Q => ta σ H fun x H' => ∃ k, TruV X.K x H' k ∧ Q k H') := by
  intro pins s σ H Q I h
  exact isTrue_plain (thn (ha pins s σ H _ I h) fun v s1 ⟨x, H1, I1, r1, q1⟩ => tru_ok pins s1 σ H1 x v Q I1 r1 q1) (he _)
theorem op_add_str : OpR X (binaryOp .Add) (fun x y H Q => ∃ i j, x = .str i ∧ y = .str j ∧ i.length + j.length ≤ sizeLine ∧ Q (.str (i ++ j)) H) := by
  intro pins s σ H x y v u Q I rx ry h
  obtain ⟨i, j, rfl, rfl, hz, q⟩ := h
  obtain ⟨t, rfl⟩ := rx
  obtain ⟨t', rfl⟩ := ry
  exact add_str (fun t' tk => ⟨.str (i ++ j), H, I.tok _, ⟨_, rfl⟩, q⟩) hz
theorem vals1 {x : V} {us : List Value} (r : Vals [x] us) : ∃ u, us = [u] ∧ RelV x u := by
  cases r with
  | cons r1 r2 => cases r2; exact ⟨_, rfl, r1⟩
theorem vals2 {x y : V} {us : List Value} (r : Vals [x, y] us) : ∃ u w', us = [u, w'] ∧ RelV x u ∧ RelV y w' := by
  cases r with
  | cons r1 r2 =>
    cases r2 with
    | cons r3 r4 => cases r4; exact ⟨_, _, rfl, r1, r3⟩
theorem call_min2 (hc : X.calm = true) : CallR X (.builtin "min") (fun xs H Q => ∃ i j, xs = [.int i, .int j] ∧ Q (.int (if j < i then j else i)) H) := by
  intro pins s σ H xs us Q I r h
  obtain ⟨i, j, rfl, q⟩ := h
  obtain ⟨u, w', rfl, ⟨t, rfl⟩, ⟨t', rfl⟩⟩ := vals2 r
  refine min_two_ints (I.ok.hd hc) fun h' tk k => ⟨_, H, I.kept k, ?_, q⟩
  by_cases hj : j < i
  · rw [if_pos hj, if_pos hj]; exact ⟨_, rfl⟩
  · rw [if_neg hj, if_neg hj]; exact ⟨_, rfl⟩
end
end L2
namespace L2
open PySem PySem.Spec PyProof.Rows
structure ObjM (h : Heap) (x dx C : Addr) (mA : Str → Option Value) : Prop where
  obj : h.get? x = some (PySem.W.instObj C dx)
  ns : h.Ns1 dx mA
  ne : dx ≠ x
theorem lookIn_ns {h : Heap} {dx : Addr} {mA : Str → Option Value} (n : h.Ns1 dx mA) : ∃ od, h.get? dx = some od ∧ ∀ name, PySem.W.lookIn name od = some (mA name) := by
  obtain ⟨o, es, ep, ho, hd, hk, _, hm⟩ := n
  refine ⟨o, ho, fun name => ?_⟩
  have e := hm name
  unfold nsFind findBy at e
  rw [← Array.find?_toList] at e
  unfold PySem.W.lookIn
  rw [hd]
  dsimp only
  split
  · rename_i y q
    rw [q] at e
    exact congrArg some e
  · rename_i q
    rw [q] at e
    have a : es.toList.any (·.refKey) = false := by
      rw [List.any_eq_false]
      intro y hy
      obtain ⟨z, t, hkey⟩ := hk y (Array.mem_toList_iff.mp hy)
      simp [DictEntry.refKey, hkey]
    have a' : ¬ es.toList.any (·.refKey) = true := by rw [a]; exact Bool.false_ne_true
    rw [if_neg a']
    exact congrArg some e
theorem ObjM.look {h : Heap} {x dx C : Addr} {mA : Str → Option Value} (I : ObjM h x dx C mA) : ∃ od, PySem.W.InstAt h x (PySem.W.instObj C dx) C (some od) ∧ ∀ name, PySem.W.lookIn name od = some (mA name) :=
  let ⟨od, ho, hl⟩ := lookIn_ns I.ns
  ⟨od, ⟨I.obj, rfl, rfl, ho⟩, hl⟩
section
variable {P : Program} {w : World} {H H' : Hp} {h h' : Heap} {a C dx : Addr} {fs fs' : List (Str × V)}
theorem ins_get (hok : HOk P w H h) (e : H a = some (.ins C dx fs)) : ∃ mA, ObjM h a dx C mA ∧ (∀ f, RelO (fs.lookup f) (mA f)) ∧ PySem.Within mA (fs.map (·.1)) ∧ fs.length ≤ 1000 ∧ H dx = some (.own a) := by
  obtain ⟨d, z, ne, ob, mA, n, r, q⟩ := (show ObjOk P w H h a (.ins C dx fs) from hok a _ e)
  exact ⟨mA, ⟨ob, n, ne⟩, r, q, z, d⟩
end
structure Cls (K : Fg) (C : Addr) : Prop where
  pg : PySem.W.plainGet K C Str.empty = true
  hd : PySem.W.hasDictIn K C = true
  po : PySem.W.plainOver K C = true
  sa : PySem.W.findIn K (.ref C) "__setattr__" = some (some (.builtin "object.__setattr__"))
theorem Cls.get {K : Fg} {C : Addr} (c : Cls K C) (f : Str) : PySem.W.plainGet K C f = true := c.pg
section
variable {X : Cx} {pins : List (Addr × Obj)} {σ : St} {H : Hp} {s : Shared} {A : Around} {E : Value → Shared → Prop} {Q : Value → Shared → Prop} {c : Value} {b : Bool}
inductive TyOf (K : Fg) (H : Hp) : V → Value → Prop where
  | non : TyOf K H .non (.type "NoneType")
  | bl (x : Bool) : TyOf K H (.bl x) (.type "bool")
  | int (i : Int) : TyOf K H (.int i) (.type "int")
  | str (x : Str) : TyOf K H (.str x) (.type "str")
  | flt (x : UInt64) : TyOf K H (.flt x) (.type "float")
  | lst {a : Addr} {xs : List V} (e : H a = some (.lst xs)) : TyOf K H (.ref a) (.type "list")
  | frz {a : Addr} {o : Obj} {xs : List V} (e : H a = some (.frz o (.lst xs))) : TyOf K H (.ref a) (.type "list")
  | tup {a : Addr} {xs : List V} (e : H a = some (.tup xs)) : TyOf K H (.ref a) (.type "tuple")
  | dK {a : Addr} {kvs : List (Key × V)} (e : H a = some (.dK kvs)) : TyOf K H (.ref a) (.type "dict")
  | dT {a : Addr} {kvs : List (List Key × V)} (e : H a = some (.dT kvs)) : TyOf K H (.ref a) (.type "dict")
  | ins {a C dx : Addr} {fs : List (Str × V)} (e : H a = some (.ins C dx fs)) (cl : Cls K C) (ha : PySem.W.findIn K (.ref C) "__class__" = some (some (.builtin "object.__class__")))
      (hn : PySem.W.specialIn K (.builtin "object.__class__") "__get__" = some (some (.builtin "getset_descriptor.__get__"))) (htk : PySem.W.takesIn K (.builtin "object.__class__") = some true)
      (hm : PySem.W.mroIn K C (.type "object") = some true) : TyOf K H (.ref a) (.ref C)
theorem isinst_ok {x : V} {u t : Value} (I : Inv X pins σ H s) (rx : RelV x u) (ty : TyOf X.K H x t) (e : PySem.W.kitOne X.K t c = some b) (h : ∀ tk, Q (.bool b) { s with toks := tk }) :
    wpAny (model X.prog X.w) A (call (.builtin "isinstance") [u, c]) Q E s := by
  cases ty with
  | non => cases (show u = Value.none from rx); exact PySem.W.kia_one PySem.W.kitx_none I.kIn True.intro e (fun z => nomatch z) h
  | bl y => cases (show u = Value.bool y from rx); exact PySem.W.kia_one PySem.W.kitx_bool I.kIn True.intro e (fun z => nomatch z) h
  | int i => obtain ⟨t, q⟩ := (show ∃ t, u = Value.int i t from rx); cases q; exact PySem.W.kia_one PySem.W.kitx_int I.kIn True.intro e (fun z => nomatch z) h
  | str y => obtain ⟨t, q⟩ := (show ∃ t, u = Value.str y t from rx); cases q; exact PySem.W.kia_one PySem.W.kitx_str I.kIn True.intro e (fun z => nomatch z) h
  | flt y => obtain ⟨t, q⟩ := (show ∃ t, u = Value.float y t from rx); cases q; exact PySem.W.kia_one PySem.W.kitx_float I.kIn True.intro e (fun z => nomatch z) h
  | @lst a xs ea =>
    cases (show u = Value.ref a from rx)
    obtain ⟨_, _, n, _, h1⟩ := (show ObjOk X.prog X.w H s.heap a (.lst xs) from I.hok a _ ea)
    exact PySem.W.kia_one PySem.W.kitx_list I.kIn ⟨_, h1, rfl⟩ e (fun z => nomatch z) h
  | @frz a ob xs ea =>
    cases (show u = Value.ref a from rx)
    obtain ⟨_, _, _, n, _, h1⟩ := (show ObjOk X.prog X.w H s.heap a (.frz ob (.lst xs)) from I.hok a _ ea)
    exact PySem.W.kia_one PySem.W.kitx_list I.kIn ⟨_, h1, rfl⟩ e (fun z => nomatch z) h
  | @tup a xs ea =>
    cases (show u = Value.ref a from rx)
    obtain ⟨_, _, _, p⟩ := (show ObjOk X.prog X.w H s.heap a (.tup xs) from I.hok a _ ea)
    obtain ⟨o, h1, h2, _⟩ := p
    exact PySem.W.kia_one PySem.W.kitx_tuple I.kIn ⟨o, h1, h2⟩ e (fun z => nomatch z) h
  | @dK a kvs ea =>
    cases (show u = Value.ref a from rx)
    obtain ⟨_, _, vs, _, p⟩ := (show ObjOk X.prog X.w H s.heap a (.dK kvs) from I.hok a _ ea)
    obtain ⟨o, es, ep, h1, h2, _⟩ := p
    exact PySem.W.kia_one PySem.W.kitx_dict I.kIn ⟨o, h1, h2.1⟩ e (fun z => nomatch z) h
  | @dT a kvs ea =>
    cases (show u = Value.ref a from rx)
    obtain ⟨_, _, xs, _, o, es, ep, h1, h2, _⟩ := (show ObjOk X.prog X.w H s.heap a (.dT kvs) from I.hok a _ ea)
    exact PySem.W.kia_one PySem.W.kitx_dict I.kIn ⟨o, h1, h2.1⟩ e (fun z => nomatch z) h
  | @ins a C dx fs ea cl ha hn htk hm =>
    cases (show u = Value.ref a from rx)
    obtain ⟨mA, O, _⟩ := ins_get I.hok ea
    obtain ⟨od, J, _⟩ := O.look
    exact PySem.W.kia_one (PySem.W.kitx_own (cl.get _) cl.hd ha hn htk hm) I.kIn J e (fun z => nomatch z) h
end
end L2
namespace L2
open PySem PySem.Spec PyProof.Rows
structure Room (k : Nat) (A : Around) : Prop where
  hd : A.handled = none
  dp : A.depth + 3 * k + 5 < recursionLimit
  un : A.units + 16 * k + 200 < cLine
theorem Room.mono {j k : Nat} {A : Around} (r : Room k A) (h : j ≤ k) : Room j A := ⟨r.hd, by have := r.dp; omega, by have := r.un; omega⟩
theorem Room.deeper {k : Nat} {A : Around} (r : Room (k + 1) A) (env : Env) : Room k (A.deeper env) :=
  ⟨r.hd, by have := r.dp; show A.depth + 1 + 3 * k + 5 < _; omega, by have := r.un; show A.units + 3 + 16 * k + 200 < _; omega⟩
theorem Room.depth {k : Nat} {A : Around} (r : Room k A) : A.depth < recursionLimit := by have := r.dp; omega
theorem Room.units0 {k : Nat} {A : Around} (r : Room k A) : A.units < cLine := by have := r.un; omega
def tNil : TA := fun _ H Q => Q [] H
def tCons (ta : TE) (tr : TA) : TA := fun σ H Q => ta σ H fun x H1 => tr σ H1 fun xs H2 => Q (x :: xs) H2
section
variable {X : Cx} {e : Expr} {es : List Expr} {te : TE} {t : TA} {pos : Pos}
theorem pa_nil : PA X [] tNil := fun _ _ _ _ H Q I h => Calls.spliced_nil ⟨[], H, I, .nil, h⟩
theorem pa_cons (ha : PE X e te) (hr : PA X es t) (hs : starEach (e :: es) X.env = (false, eval e X.env) :: starEach es X.env := by rfl) : PA X (e :: es) (tCons te t) := by
  intro pos pins s σ H Q I h
  rw [hs]
  show wpAny _ _ (spliced ((false, eval e X.env) :: backTo pos (starEach es X.env))) _ _ s
  refine Calls.spliced_cons (thn (ha pins s σ H _ I h) fun u s1 ⟨x, H1, I1, r1, q1⟩ => ?_)
  exact thn (hr pos pins s1 σ H1 _ I1 q1) fun us s2 ⟨xs, H2, I2, r2, q2⟩ => ⟨x :: xs, H2, I2, .cons r1 r2, q2⟩
def tTup (t : TA) : TE := fun σ H Q => t σ H fun xs H1 => xs.length ≤ sizeLine ∧ ∀ p, H1 p = none → Q (.ref p) (upd H1 p (.tup xs))
def tLst (t : TA) : TE := fun σ H Q => t σ H fun xs H1 => xs.length ≤ sizeLine ∧ ∀ p, H1 p = none → Q (.ref p) (upd H1 p (.lst xs))
theorem pe_tup {x1} (h : PA X es t) : PE X (.Tuple es x1 pos) (tTup t) := by
  intro pins s σ H Q I hq
  refine wpAny_Tuple_spliced (thn (h pos pins s σ H _ I hq) fun us s1 ⟨xs, H1, I1, r, z, q⟩ => ⟨by rw [← r.length]; exact z, ?_⟩)
  have hf : H1 s1.heap.objs.size = none := I1.hok.fresh (Nat.le_refl _)
  refine ⟨.ref s1.heap.objs.size, upd H1 s1.heap.objs.size (.tup xs), I1.laid (t' := s1.toks) (fun b u e => Heap.get?_push_of_some _ e) (Nat.le_refl _) ?_, rfl, q _ hf⟩
  exact ⟨z, us, r, ⟨_, Heap.get?_push_size _ rfl, rfl, _, rfl⟩⟩
theorem pe_lst (h : PA X es t) : PE X (.List es pos) (tLst t) := by
  intro pins s σ H Q I hq
  refine wpAny_List_spliced (thn (h pos pins s σ H _ I hq) fun us s1 ⟨xs, H1, I1, r, z, q⟩ => ⟨by rw [← r.length]; exact z, ?_⟩)
  have hf : H1 s1.heap.objs.size = none := I1.hok.fresh (Nat.le_refl _)
  refine ⟨.ref s1.heap.objs.size, upd H1 s1.heap.objs.size (.lst xs), I1.laid (t' := s1.toks) (fun b u e => Heap.get?_push_of_some _ e) (Nat.le_refl _) ?_, rfl, q _ hf⟩
  exact ⟨z, us, 0, r, Heap.get?_push_size _ rfl⟩
end
abbrev Sp := List V → Hp → VK → XK → Prop
abbrev CXT := List Env → Hp → Shared → XK → Value → Shared → Prop
structure Env0 (P : Program) (w : World) (K : Fg) (mg : Str → Option Value) (base : Heap) (A : Around) (outer : List Env) (s : Shared) (H : Hp) : Prop where
  frames : A.frames = some outer
  mod : Mod K mg base
  bs : ∀ b o, base.get? b = some o → s.heap.get? b = some o ∧ H b = none
  bsz : base.objs.size ≤ s.heap.objs.size
  funs : s.heap.FunFrames base outer
  frf : ∀ b ∈ frs outer, H b = none
  hok : HOk P w H s.heap
  bare : AllBare s.gens
def CE (outer : List Env) (P : Program) (w : World) (H : Hp) (s : Shared) (Q : VK) (u : Value) (s' : Shared) : Prop :=
  ∃ v H', s'.os = s.os ∧ AllBare s'.gens ∧ Un (frs outer) [] H H' s.heap s'.heap ∧ HOk P w H' s'.heap ∧ RelV v u ∧ Q v H'
def CR (CX : CXT) (outer : List Env) (P : Program) (w : World) (H : Hp) (s : Shared) (Q : VK) (E : XK) (r : Result) (s' : Shared) : Prop :=
  match r with
  | .ok (.ret u) => CE outer P w H s Q u s'
  | .ok _ => False
  | .error e => CX outer H s E e s'
structure FnOk (P : Program) (w : World) (K : Fg) (mg : Str → Option Value) (base : Heap) (CX : CXT) (k : Nat) (f : Addr) (fd : FuncData) (ps : List Str) (sp : Sp) : Prop where
  len : ∀ vs H Q E, sp vs H Q E → vs.length = ps.length
  run : ∀ (A : Around) (outer : List Env) (s : Shared) (H : Hp) (args : Args) (us : List Value) (vs : List V) (Q : VK) (E : XK), Room k A → Env0 P w K mg base A outer s H → BindsTo s fd args (ps.zip us) → Vals vs us → sp vs H Q E →
    codeAny (model P w) A (.call (.ref f) args) (CR CX outer P w H s Q E) s
section
variable {X : Cx} {pins : List (Addr × Obj)} {σ : St} {H : Hp} {s s' : Shared}
theorem Inv.env0 (I : Inv X pins σ H s) : Env0 X.prog X.w X.K X.mg X.base X.A X.stack s H :=
  ⟨I.ok.frames, I.ok.mod, I.bs, Nat.le_trans I.ok.bsz I.sz, I.stack, I.stkFree, I.hok, I.bare⟩
theorem Inv.after {Q : VK} {u : Value} (I : Inv X pins σ H s) (h : CE X.stack X.prog X.w H s Q u s') : EP X pins σ Q u s' := by
  obtain ⟨v, H', os, bare, un, hok, r, q⟩ := h
  obtain ⟨hh, g, d, t, os'⟩ := s'
  obtain rfl : os' = s.os := os
  exact ⟨v, H', I.call (h' := hh) (g' := g) (d' := d) (t' := t) (ch := []) un hok bare (fun b z => absurd z (by simp)), r, q⟩
end
def tCall (sp : Sp) (dvs : List V) (E : XK) (t : TA) : TE := fun σ H Q => t σ H fun vs H1 => sp (vs ++ dvs) H1 Q E
def Binds (K : Fg) (fd : FuncData) (ps : List Str) (ds : List Value) : Prop :=
  ∀ (s : Shared) (us : List Value), K.In s.heap → (us ++ ds).length = ps.length → BindsTo s fd ⟨us, []⟩ (ps.zip (us ++ ds))
theorem Binds.all {K : Fg} {fd : FuncData} {ps : List Str} (h : ∀ us : List Value, us.length = ps.length → bindArgs fd ⟨us, []⟩ = pure (ps.zip us)) : Binds K fd ps [] := fun s us _ hl => by
  rw [List.append_nil] at hl ⊢
  exact .of_eq (h us hl)
def Passes (CX : CXT) (X : Cx) (E : XK) : Prop := ∀ (pins : List (Addr × Obj)) (σ : St) (H : Hp) (s : Shared) (e : Value) (s' : Shared), Inv X pins σ H s → CX X.stack H s E e s' → X.xe e s'
section
variable {X : Cx} {CX : CXT} {k : Nat} {f C : Addr} {fd : FuncData} {ps : List Str} {sp : Sp} {dvs : List V} {ds : List Value} {E : XK} {x m : Str} {p pos apos : Pos} {e o : Expr} {es : List Expr} {ta : TE} {t : TA}
theorem run_fn {pins : List (Addr × Obj)} {σ : St} {H : Hp} {s : Shared} {Q : VK} {us : List Value} {vs : List V} (F : FnOk X.prog X.w X.K X.mg X.base CX k f fd ps sp) (hr : Room k X.A) (hb : Binds X.K fd ps ds) (hd : Vals dvs ds) (hx : Passes CX X E)
    (I : Inv X pins σ H s) (r : Vals vs us) (h : sp (vs ++ dvs) H Q E) : wpAny (model X.prog X.w) X.A (call (.ref f) us) (EP X pins σ Q) X.xe s := by
  have r2 : Vals (vs ++ dvs) (us ++ ds) := r.append hd
  have hl : (us ++ ds).length = ps.length := by rw [← r2.length]; exact F.len _ _ _ _ h
  refine wpAny_call (codeAny_mono (F.run X.A X.stack s H ⟨us, []⟩ (us ++ ds) (vs ++ dvs) Q E hr I.env0 (hb s us I.kIn hl) r2 h) fun r s' hq => ?_)
  cases r with
  | error e => exact hx pins σ H s e s' I hq
  | ok fl =>
    cases fl with
    | ret u => exact I.after hq
    | next => exact False.elim hq
    | brk => exact False.elim hq
    | cont => exact False.elim hq
theorem pe_call (F : FnOk X.prog X.w X.K X.mg X.base CX k f fd ps sp) (hr : Room k X.A) (hg : Gl X x) (hm : X.mg x = some (.ref f)) (hk : PySem.W.keepIn X.K (.ref f) = true) (hb : Binds X.K fd ps ds) (hd : Vals dvs ds) (hx : Passes CX X E)
    (ha : PA X (e :: es) t) (hdb : (x == ("__debug__" : Str)) = false := by decide) (he : starEach (e :: es) X.env = (false, eval e X.env) :: starEach es X.env := by rfl) (hpl : (backTo pos (starEach es X.env)).any (·.1) = false := by rfl) :
    PE X (.Call (.Name x p) (e :: es) [] pos) (tCall sp dvs E t) := by
  intro pins s σ H Q I h
  refine wpAny_Call_Name_kw (ld_glob I hg hm ?_ hdb)
  refine PySem.W.callWith_K (h₀ := X.base) I.ok.mod.kin hk (thn (ha pos pins s σ H _ I h) fun us s1 ⟨vs, H1, I1, r, q⟩ => ⟨I1.kIn, ?_⟩) he hpl
  exact run_fn F hr hb hd hx I1 r q
end
section
variable {X : Cx} {CX : CXT} {k : Nat} {f C : Addr} {fd : FuncData} {ps ks : List Str} {sp : Sp} {E : XK} {x m : Str} {p pos apos kpos : Pos} {e o : Expr} {es : List Expr} {kws : List Keyword} {te ta : TE} {t tk : TA} {nm : Option Str}
variable {g : List Value → List Value → List Value} {gV : List V → List V → List V}
end
structure FnScope (N P : List Str) (sc : Scope) : Prop where
  kind : sc.kind = .function
  co : sc.isCoroutine = false
  gen : sc.isGenerator = false
  nd : N.Nodup
  pre : N.take P.length = P
  par : ∀ x ∈ P, sc.names.lookup x = some .local ∨ sc.names.lookup x = some .cell
  nofree : ∀ y ∈ sc.names, y.2 ≠ .free
theorem bindL_out {kindOf : Str → Option NameKind} {x : Str} : ∀ {binds : List (Str × Value)} {m : Str → Option Value}, (∀ v, (x, v) ∉ binds) → bindL kindOf binds m x = m x
  | [], _, _ => rfl
  | (n, v) :: r, m, h => by
    unfold bindL
    rw [bindL_out fun w hw => h w (List.mem_cons_of_mem _ hw)]
    split
    · have : x ≠ n := by rintro rfl; exact h v List.mem_cons_self
      simp [this]
    · rfl
theorem bindC_out {kindOf : Str → Option NameKind} {x : Str} : ∀ {binds : List (Str × Value)} {m : Str → Option Value}, (∀ v, (x, v) ∉ binds) → bindC kindOf binds m x = m x
  | [], _, _ => rfl
  | (n, v) :: r, m, h => by
    unfold bindC
    rw [bindC_out fun w hw => h w (List.mem_cons_of_mem _ hw)]
    split
    · rfl
    · have : x ≠ n := by rintro rfl; exact h v List.mem_cons_self
      simp [this]
theorem bindL_get {kindOf : Str → Option NameKind} {x : Str} {v : Value} : ∀ {P : List Str} {vs : List Value} {i : Nat} {m : Str → Option Value}, P.Nodup → P[i]? = some x → vs[i]? = some v → kindOf x = some .local →
    bindL kindOf (P.zip vs) m x = some v
  | [], _, _, _, _, h, _, _ => by simp at h
  | _ :: _, [], _, _, _, _, h, _ => by simp at h
  | p :: P, w :: vs, 0, m, nd, h1, h2, hk => by
    simp at h1 h2; subst h1; subst h2
    show bindL kindOf ((p, w) :: P.zip vs) m p = _
    unfold bindL
    rw [bindL_out fun v hv => (List.nodup_cons.mp nd).1 (List.of_mem_zip hv).1, if_pos hk]
    simp
  | p :: P, w :: vs, i + 1, m, nd, h1, h2, hk => by
    show bindL kindOf ((p, w) :: P.zip vs) m x = _
    unfold bindL
    exact bindL_get (i := i) (List.nodup_cons.mp nd).2 (by simpa using h1) (by simpa using h2) hk
theorem bindC_get {kindOf : Str → Option NameKind} {x : Str} {v : Value} : ∀ {P : List Str} {vs : List Value} {i : Nat} {m : Str → Option Value}, P.Nodup → P[i]? = some x → vs[i]? = some v → kindOf x ≠ some .local →
    bindC kindOf (P.zip vs) m x = some v
  | [], _, _, _, _, h, _, _ => by simp at h
  | _ :: _, [], _, _, _, _, h, _ => by simp at h
  | p :: P, w :: vs, 0, m, nd, h1, h2, hk => by
    simp at h1 h2; subst h1; subst h2
    show bindC kindOf ((p, w) :: P.zip vs) m p = _
    unfold bindC
    rw [bindC_out fun v hv => (List.nodup_cons.mp nd).1 (List.of_mem_zip hv).1, if_neg hk]
    simp
  | p :: P, w :: vs, i + 1, m, nd, h1, h2, hk => by
    show bindC kindOf ((p, w) :: P.zip vs) m x = _
    unfold bindC
    exact bindC_get (i := i) (List.nodup_cons.mp nd).2 (by simpa using h1) (by simpa using h2) hk
def start (N : List Str) (vs : List V) : St := vs.map some ++ List.replicate (N.length - vs.length) none
def cxOf (CX : CXT) (P : Program) (w : World) (K : Fg) (mg : Str → Option Value) (base : Heap) (N : List Str) (qual : Str) (scope : Scope) (f : Addr) (cd : Value) (A : Around) (outer : List Env) (s : Shared) (H : Hp) (E : XK) : Cx where
  prog := P
  w := w
  K := K
  mg := mg
  base := base
  A := A.deeper (envOfC qual scope s.heap.objs.size f cd)
  N := N
  s₀ := s
  H₀ := H
  env := envOfC qual scope s.heap.objs.size f cd
  outer := outer
  stack := envOfC qual scope s.heap.objs.size f cd :: outer
  ex := []
  calm := true
  fn := fun _ => true
  pn := []
  xe := fun e s' => wpAny (model P w) (A.deeper (envOfC qual scope s.heap.objs.size f cd)) (leaving (envOfC qual scope s.heap.objs.size f cd) e) (fun _ s'' => CX outer H s E e s'') (fun e' s'' => CX outer H s E e' s'') s'
theorem cell_has {sc : Scope} {n : Nat} {x : Str} (h : sc.names.lookup x = some .cell) : ∃ c, (cellsFrom n sc.names []).lookup x = some c := by
  have q := PySem.W.cellsFrom_some sc.names n [] (.inl h)
  exact Option.isSome_iff_exists.mp q
theorem inv_start {CX : CXT} {P : Program} {w : World} {K : Fg} {mg : Str → Option Value} {base : Heap} {N ps : List Str} {qual : Str} {scope : Scope} {f : Addr} {cd : Value} {A : Around} {outer : List Env} {s s1 : Shared} {H : Hp} {E : XK} {us : List Value} {vs : List V}
    (S : FnScope N ps scope) (hd : A.handled = none) (e0 : Env0 P w K mg base A outer s H) (hl : vs.length = ps.length) (r : Vals vs us)
    (x : InCallC s s.heap.objs.size (bindL (envOfC qual scope s.heap.objs.size f cd).kindOf (ps.zip us) fun _ => none) (cellsFrom (s.heap.objs.size + 1) scope.names []) (bindC (envOfC qual scope s.heap.objs.size f cd).kindOf (ps.zip us) fun _ => none) s1) :
    Inv (cxOf CX P w K mg base N qual scope f cd A outer s H E) [] (start N vs) H s1 := by
  have hpl : ps.length ≤ N.length := by have := congrArg List.length S.pre; rw [List.length_take] at this; omega
  obtain ⟨h1, tk, rfl, hk⟩ := x.done
  have noA : ∀ b : Addr, b ∉ (cxOf CX P w K mg base N qual scope f cd A outer s H E).ex := fun b z => absurd (show b ∈ ([] : List Addr) from z) (by simp)
  refine ⟨⟨e0.mod, S.kind, rfl, rfl, Nat.le_refl _, fun y z c h1 h2 => ?_, fun y hy => ?_, fun y c _ h => ?_, fun _ => hd, Around.frames_deeper e0.frames, .inr ⟨rfl, rfl⟩, fun b z => absurd z (noA b), e0.bs, e0.bsz, fun b _ _ => noA b, fun b z => absurd z (noA b), e0.funs, e0.frf⟩,
    rfl, e0.bare, Un.kept hk, ⟨_, x.toInCall.ns, fun i y v h1 h2 h3 => ?_⟩, fun y c h => ⟨_, x.cell y c h⟩, e0.hok.fresh (Nat.le_refl _), fun y c h => ?_, fun p hp => absurd (show p ∈ ([] : List (Addr × Obj)) from hp) (by simp), e0.hok.kept hk, ?_⟩
  · exact name_of_addr x.apart (PySem.mem_of_lookup h1) (PySem.mem_of_lookup h2)
  · have hy : scope.names.lookup y = some .cell ∨ scope.names.lookup y = some .free := hy
    rcases hy with hy | hy
    · exact cell_has hy
    · exact absurd rfl (S.nofree _ (PySem.mem_of_lookup hy))
  · exact Nat.le_of_lt (x.above y c (PySem.mem_of_lookup h))
  · have hi : i < vs.length := by
      unfold start at h2
      by_cases hi : i < vs.length
      · exact hi
      · rw [List.getElem?_append_right (by simpa using hi)] at h2
        rw [List.getElem?_replicate] at h2
        split at h2 <;> cases h2
    have ha : vs[i]? = some v := by
      unfold start at h2
      rw [List.getElem?_append_left (by simpa using hi), List.getElem?_map] at h2
      cases e : vs[i]? with
      | none => rw [e] at h2; cases h2
      | some a => rw [e] at h2; cases h2; rfl
    obtain ⟨u, hu, rv⟩ := r.get ha
    have hp : ps[i]? = some y := by
      rw [← S.pre, List.getElem?_take_of_lt (by omega)]; exact h1
    have ndP : ps.Nodup := by rw [← S.pre]; exact S.nd.sublist (List.take_sublist _ _)
    refine ⟨u, rv, ?_⟩
    rcases S.par y (List.mem_of_getElem? hp) with k | k
    · exact .inl ⟨k, bindL_get ndP hp hu k⟩
    · obtain ⟨c, e⟩ := cell_has (n := s.heap.objs.size + 1) k
      refine .inr ⟨.inl k, c, e, ?_⟩
      have q := x.cell y c e
      rw [bindC_get ndP hp hu (by show scope.names.lookup y ≠ _; rw [k]; decide)] at q
      exact q
  · exact e0.hok.fresh (Nat.le_of_lt (x.above y c (PySem.mem_of_lookup h)))
  · unfold start
    show _ = N.length
    rw [List.length_append, List.length_map, List.length_replicate]
    omega
theorem fn_of {CX : CXT} {P : Program} {w : World} {K : Fg} {mg : Str → Option Value} {base : Heap} {k : Nat} {f : Addr} {name qual : Str} {params : Arguments} {body : List Stmt} {scope : Scope} {dV kV doc pm cdv ct oc : Value} {an od : Option Addr}
    {osl : Array (Option Value)} {N ps : List Str} {sp : Sp} (lk : K.lookup f = some ⟨oc, od, .func (PySem.W.fnOf name qual params body scope dV kV doc pm an cdv ct), osl⟩) (hcd : PySem.W.codeIn K cdv qual = true) (S : FnScope N ps scope)
    (len : ∀ vs H Q E, sp vs H Q E → vs.length = ps.length)
    (hbody : ∀ (A : Around) (outer : List Env) (s : Shared) (H : Hp) (vs : List V) (Q : VK) (E : XK), Room k (A.deeper (envOfC qual scope s.heap.objs.size f cdv)) → sp vs H Q E →
      ∃ t, PSs (cxOf CX P w K mg base N qual scope f cdv A outer s H E) body t ∧ t { nx := fun _ H' => Q .non H', rt := Q } (start N vs) H) :
    FnOk P w K mg base CX (k + 1) f (PySem.W.fnOf name qual params body scope dV kV doc pm an cdv ct) ps sp := by
  refine ⟨len, fun A outer s H args us vs Q E hr e0 hb r hsp => ?_⟩
  have hl := len _ _ _ _ hsp
  have KX : K.In s.heap := e0.mod.kin.keeps fun b o e => (e0.bs b o e).1
  have lim : s.heap.NoLimit := e0.mod.nolimit.keeps fun b o e => (e0.bs b o e).1
  have hkind : ∀ y ∈ ps.zip us, scope.names.lookup y.1 = some .local ∨ (scope.names.lookup y.1 = some .cell ∧ ((cellsFrom (s.heap.objs.size + 1) scope.names []).lookup y.1).isSome = true) := fun ⟨n, v⟩ hy => by
    rcases S.par n (List.of_mem_zip hy).1 with q | q
    · exact .inl q
    · exact .inr ⟨q, PySem.W.cellsFrom_some _ _ _ (.inl q)⟩
  refine codeAny_call_function hr.depth (KX _ _ lk) rfl S.co S.gen rfl (PySem.W.codeRec_of KX hcd) (hb _ _ _ _ ?_)
  refine wpAny_newFunctionEnv_cells S.kind hkind fun env he s1 x => ?_
  subst he
  refine ⟨lim.keeps x.toInCall.keep, codeAny_func ?_⟩
  obtain ⟨t, ht, hq⟩ := hbody A outer s H vs Q E (hr.deeper _) hsp
  have I : Inv (cxOf CX P w K mg base N qual scope f cdv A outer s H E) [] (start N vs) H s1 := inv_start S hr.hd e0 hl r x
  refine wpAny_mono (ht [] s1 (start N vs) H _ I hq) (fun fl s' hs => ?_) fun e s' hs => hs
  have fin : ∀ {σ' : St} {H' : Hp} {v : V} {u : Value}, Inv (cxOf CX P w K mg base N qual scope f cdv A outer s H E) [] σ' H' s' → RelV v u → Q v H' → CE outer P w H s Q u s' :=
    fun {σ' H' v u} J rv q => ⟨v, H', J.os, J.bare, J.base, J.hok, rv, q⟩
  cases fl with
  | ret u =>
    obtain ⟨v, σ', H', J, rv, q⟩ := hs
    exact fin J rv q
  | next =>
    obtain ⟨σ', H', J, q⟩ := hs
    exact fin (v := V.non) (u := Value.none) J rfl q
  | brk =>
    obtain ⟨_, _, _, q⟩ := hs
    exact False.elim q
  | cont =>
    obtain ⟨_, _, _, q⟩ := hs
    exact False.elim q
end L2
namespace L2
open PySem PySem.Spec PyProof.Rows
section
variable {X : Cx} {x : Str} {p pos : Pos} {e : Expr} {es : List Expr} {t : TA} {id T : String} {r : List V → Hp → VK → Prop}
def tCB (r : List V → Hp → VK → Prop) (t : TA) : TE := fun σ H Q => t σ H fun vs H1 => r vs H1 Q
theorem pe_callB (hc : CallR X (.builtin id) r) (hg : Gl X x) (hm : X.mg x = none) (hv : bootBuiltins x = some (.builtin id)) (ha : PA X (e :: es) t) (hn : x ≠ "__name__" := by decide) (hdb : (x == ("__debug__" : Str)) = false := by decide)
    (he : starEach (e :: es) X.env = (false, eval e X.env) :: starEach es X.env := by rfl) (hpl : (backTo pos (starEach es X.env)).any (·.1) = false := by rfl) : PE X (.Call (.Name x p) (e :: es) [] pos) (tCB r t) := by
  intro pins s σ H Q I h
  refine wpAny_Call_Name_kw (ld_blt I hg hm hv ?_ hn hdb)
  exact PyProof.Rows.callWith_builtin1 (thn (ha pos pins s σ H _ I h) fun us s1 ⟨vs, H1, I1, r1, q1⟩ => hc pins s1 σ H1 vs us Q I1 r1 q1) he hpl
theorem pe_callTy (hc : CallR X (.type T) r) (hg : Gl X x) (hm : X.mg x = none) (hv : bootBuiltins x = some (.type T)) (ha : PA X (e :: es) t) (hn : x ≠ "__name__" := by decide) (hdb : (x == ("__debug__" : Str)) = false := by decide)
    (he : starEach (e :: es) X.env = (false, eval e X.env) :: starEach es X.env := by rfl) (hpl : (backTo pos (starEach es X.env)).any (·.1) = false := by rfl) : PE X (.Call (.Name x p) (e :: es) [] pos) (tCB r t) := by
  intro pins s σ H Q I h
  refine wpAny_Call_Name_kw (ld_blt I hg hm hv ?_ hn hdb)
  exact PyProof.Rows.callWith_type1 (thn (ha pos pins s σ H _ I h) fun us s1 ⟨vs, H1, I1, r1, q1⟩ => hc pins s1 σ H1 vs us Q I1 r1 q1) he hpl
end
end L2
namespace HT
open PySem PyProof.Rows
section
open PySem.SeqAt
open PySem.AutoSeq1 (wpAny_loadPart')
open PySem.MeetsSeq PySem.MeetsSeq2 PySem.MeetsSeq3
end
section
variable {prog : Program} {w : World} {A : Around} {E : Value → Shared → Prop} {s : Shared}
theorem cat_tup {t b : Addr} {vs ws : List Value} {Q : Value → Shared → Prop} (ht : IsTup s.heap t vs.toArray) (hb : IsTup s.heap b ws.toArray) (hv : vs ≠ [])
    (h1 : ws = [] → Q (.ref t) s) (h2 : ws ≠ [] → Q (.ref s.heap.objs.size) { s with heap := s.heap.push { cls := .type "tuple", data := .seq (vs ++ ws).toArray } })
    (hsz : vs.length + ws.length ≤ sizeLine) : wpAny (model prog w) A (binaryOp .Add (.ref t) (.ref b)) Q E s := by
  obtain ⟨⟨cls, dd, data, sl⟩, ho, hc, n, hd⟩ := id ht
  obtain ⟨⟨cls2, dd2, data2, sl2⟩, ho2, hc2, n2, hd2⟩ := id hb
  simp only at hc hd hc2 hd2
  subst hc hd hc2 hd2
  have e : vs.toArray ++ ws.toArray = (vs ++ ws).toArray := by simp
  by_cases hw : ws = []
  · exact concat_meets ⟨_, ho, rfl⟩ ⟨_, ho2, rfl⟩ noFill_tuple_add seq_tuple_add PySem.F.slot_tuple_add PySem.F.entry_tuple_add (PySem.F.args_tuple_add_2 _ _)
      (tuple_addW1 t b vs.toArray ws.toArray n n2 dd dd2 sl sl2 (by simpa using hv) (by simp [hw])) ⟨ho, ho2, h1 hw⟩
  · refine concat_meets ⟨_, ho, rfl⟩ ⟨_, ho2, rfl⟩ noFill_tuple_add seq_tuple_add PySem.F.slot_tuple_add PySem.F.entry_tuple_add (PySem.F.args_tuple_add_2 _ _)
      (tuple_addW2 t b vs.toArray ws.toArray n n2 dd dd2 sl sl2 (by simpa using hv) (by simpa using hw) (by rw [List.size_toArray, List.size_toArray]; exact hsz)) ⟨ho, ho2, ?_⟩
    rw [e]
    exact h2 hw
def sIx (n d : Nat) : Option Int → Nat
  | none => d
  | some v => if v < 0 then (v + (n : Int)).toNat else min v.toNat n
theorem sIx_none (n d : Nat) : sIx n d none = d := rfl
theorem sIx_nat (n d k : Nat) : sIx n d (some (k : Int)) = min k n := by
  show (if (k : Int) < 0 then ((k : Int) + (n : Int)).toNat else min (k : Int).toNat n) = min k n
  rw [if_neg (by omega), Int.toNat_natCast]
theorem sIx_le (n d : Nat) (hd : d ≤ n) (o : Option Int) : sIx n d o ≤ n := by
  cases o with
  | none => exact hd
  | some v =>
    show (if v < 0 then (v + (n : Int)).toNat else min v.toNat n) ≤ n
    by_cases hv : v < 0
    · rw [if_pos hv]; omega
    · rw [if_neg hv]; exact Nat.min_le_right _ _
theorem clip_eq (v : Int) (n d : Nat) : (if v < 0 then max (v + (n : Int)) 0 else min v (n : Int)) = ((sIx n d (some v) : Nat) : Int) := by
  show (if v < 0 then max (v + (n : Int)) 0 else min v (n : Int)) = (((if v < 0 then (v + (n : Int)).toNat else min v.toNat n) : Nat) : Int)
  by_cases hv : v < 0
  · simp only [if_pos hv]; omega
  · simp only [if_neg hv]; omega
theorem adjust_gen (lo hi : Option Int) (n : Nat) : Builtin.Slice.sliceAdjust lo hi 1 (n : Int) = (((sIx n 0 lo : Nat) : Int), ((sIx n n hi : Nat) : Int)) := by
  have h1 : ¬ ((1 : Int) < 0) := by omega
  unfold Builtin.Slice.sliceAdjust
  simp only [h1, if_false]
  refine Prod.ext ?_ ?_
  · cases lo with
    | none => rfl
    | some v => exact clip_eq v n 0
  · cases hi with
    | none => rfl
    | some v => exact clip_eq v n n
theorem places_gen (i j : Nat) : Builtin.Slice.slicePlaces (i : Int) (j : Int) 1 = j - i := by
  unfold Builtin.Slice.slicePlaces
  have h1 : (1 : Int) > 0 := by omega
  simp only [h1, if_true, Int.ediv_one]
  split <;> omega
theorem slicePart_ {v : Value} {o : Option Int} {Q : Option Int → Shared → Prop} (p : IsPart v o) (h : Q o s) : wpAny (model prog w) A (Builtin.Slice.slicePartIndex v) Q E s := by
  cases p with
  | none => exact slicePart_none h
  | int i t => exact slicePart_int h
theorem sliceApplied_gen {sl : Addr} {vl vu : Value} {lo hi : Option Int} {n : Nat} {Q : Int × Int × Nat → Shared → Prop} (hs : s.heap.IsSliceOf sl vl vu .none) (pl : IsPart vl lo) (pu : IsPart vu hi)
    (h : Q (((sIx n 0 lo : Nat) : Int), 1, sIx n n hi - sIx n 0 lo) s) : wpAny (model prog w) A (Builtin.Slice.sliceApplied (.ref sl) (pure (n : Int))) Q E s := by
  obtain ⟨os, hos, hcs, hds⟩ := id hs
  unfold Builtin.Slice.sliceApplied Builtin.Slice.sliceFields
  refine wpAny_bind (wpAny_bind (wpAny_field hos hds (x := vl) rfl (wpAny_bind (wpAny_field hos hds (x := vu) rfl (wpAny_bind (wpAny_field hos hds (x := .none) rfl (wpAny_pure ?_)))))))
  refine wpAny_bind (slicePart_none ?_)
  show wpAny _ _ (if ((1 : Int) == 0) = true then _ else _) _ _ s
  rw [if_neg (by decide)]
  refine wpAny_bind (slicePart_ pl (wpAny_bind (slicePart_ pu (wpAny_bind (wpAny_pure ?_)))))
  show wpAny _ _ (match Builtin.Slice.sliceAdjust lo hi 1 (n : Int) with | (lo, hi) => pure (lo, (1 : Int), Builtin.Slice.slicePlaces lo hi 1)) _ _ s
  rw [adjust_gen lo hi n]
  show wpAny _ _ (pure (((sIx n 0 lo : Nat) : Int), (1 : Int), Builtin.Slice.slicePlaces ((sIx n 0 lo : Nat) : Int) ((sIx n n hi : Nat) : Int) 1)) _ _ s
  rw [places_gen]
  exact wpAny_pure h
theorem pick_gen (xs : Array Value) (i k : Nat) : ((List.range k).filterMap fun (m : Nat) => xs[((i : Int) + (m : Int) * 1).toNat]?).toArray = ((xs.toList.drop i).take k).toArray := by
  have e : (fun (m : Nat) => xs[((i : Int) + (m : Int) * 1).toNat]?) = fun m => xs[i + m]? := by
    funext m
    have : ((i : Int) + (m : Int) * 1).toNat = i + m := by omega
    rw [this]
  rw [e]
  have := pick_run xs i k
  rw [List.filterMap_map] at this
  have e2 : ((fun x => xs[x]?) ∘ fun x => i + x) = fun m => xs[i + m]? := rfl
  rw [e2] at this
  rw [this]
theorem getItem_tuple_cut {t sl : Addr} {items : Array Value} {vl vu : Value} {lo hi : Option Int} {Q : Value → Shared → Prop} (ht : IsTup s.heap t items) (hs : s.heap.IsSliceOf sl vl vu .none) (pl : IsPart vl lo) (pu : IsPart vu hi)
    (hw : ¬ (sIx items.size 0 lo = 0 ∧ sIx items.size items.size hi = items.size))
    (h : Q (.ref s.heap.objs.size) { s with heap := s.heap.push { cls := .type "tuple", data := .seq ((items.toList.drop (sIx items.size 0 lo)).take (sIx items.size items.size hi - sIx items.size 0 lo)).toArray } })
    (hsz : items.size ≤ sizeLine) : wpAny (model prog w) A (getItem (.ref t) (.ref sl)) Q E s := by
  have htake : sizeOk (.seq ((items.toList.drop (sIx items.size 0 lo)).take (sIx items.size items.size hi - sIx items.size 0 lo)).toArray) := by
    show ((items.toList.drop (sIx items.size 0 lo)).take (sIx items.size items.size hi - sIx items.size 0 lo)).toArray.size ≤ sizeLine
    rw [List.size_toArray, List.length_take, List.length_drop, Array.length_toList]
    omega
  have hj : sIx items.size items.size hi ≤ items.size := sIx_le _ _ (Nat.le_refl _) hi
  obtain ⟨os, hos, hcs, hds⟩ := id hs
  have hTs : s.TypeIs (.ref sl) "slice" := ⟨os, hos, hcs⟩
  unfold getItem
  try with_reducible refine wpAny_holding ?_
  first | refine wpAny_bind (wpAny_pure ?_) | skip
  refine wpAny_bind (wpAny_sequenceKey ht.typeIs (by decide) ?_)
  refine wpAny_bind (wpAny_callSpecial?_slot (name := Str.ofString "__getitem__") ht.typeIs PyProof.Rows.slot_tuple_getitem
    (wpAny_call_entry PyProof.Rows.slot_tuple_getitem ht.typeIs entry_tuple_getitem ?_ (args_tuple_getitem _ _)))
  show wpAny _ _ (Builtin.Tuple.tupleItemsOf (.ref t) >>= _) _ _ s
  refine wpAny_bind (tupleItemsOf_ ht ?_)
  refine wpAny_bind (wpAny_typeOf hTs ?_)
  rw [if_pos (by decide)]
  refine wpAny_bind (sliceApplied_gen hs pl pu ?_)
  have hno : ¬ ((((sIx items.size 0 lo : Nat) : Int) == 0 && (1 : Int) == 1 && (sIx items.size items.size hi - sIx items.size 0 lo) == items.size) = true) := by
    intro q
    rw [Bool.and_eq_true, Bool.and_eq_true] at q
    have q1 : ((sIx items.size 0 lo : Nat) : Int) = 0 := eq_of_beq q.1.1
    have q2 : sIx items.size items.size hi - sIx items.size 0 lo = items.size := eq_of_beq q.2
    exact hw ⟨by omega, by omega⟩
  show wpAny _ _ (if (((sIx items.size 0 lo : Nat) : Int) == 0 && (1 : Int) == 1 && (sIx items.size items.size hi - sIx items.size 0 lo) == items.size) = true then _ else _) _ _ s
  rw [if_neg hno, pick_gen]
  first
    | exact wpAny_bind (m := Builtin.Tuple.tupleExact _) (wpAny_newObj_type (wpAny_pure ⟨_, rfl, wpAny_pure h⟩) htake)
    | exact wpAny_bind (m := Builtin.Tuple.tupleExact _) (wpAny_newObj_type (wpAny_bind (wpAny_pure (wpAny_pure ⟨_, rfl, wpAny_pure h⟩))) htake)
    | exact wpAny_bind (wpAny_bind (m := Builtin.Tuple.tupleExact _) (wpAny_newObj_type (wpAny_pure (wpAny_pure ⟨_, rfl, wpAny_pure h⟩)) htake))
    | exact wpAny_bind (wpAny_bind (m := Builtin.Tuple.tupleExact _) (wpAny_newObj_type (wpAny_pure ⟨_, rfl, wpAny_pure h⟩) htake))
end
end HT
namespace L2
open PySem PySem.Spec PyProof.Rows
abbrev TO := St → Hp → (Option Int → Hp → Prop) → Prop
def PO (X : Cx) (e : Option Expr) (t : TO) : Prop :=
  ∀ (pins : List (Addr × Obj)) (s : Shared) (σ : St) (H : Hp) (Q : Option Int → Hp → Prop), Inv X pins σ H s → t σ H Q →
    wpAny (model X.prog X.w) X.A (evalPart e X.env) (fun u s' => ∃ o H', Inv X pins σ H' s' ∧ IsPart u o ∧ Q o H') X.xe s
def tNoPart : TO := fun _ H Q => Q none H
def tPart (t : TE) : TO := fun σ H Q => t σ H fun x H1 => ∃ i, x = .int i ∧ Q (some i) H1
theorem intsAre_of {ns : List Int} : ∀ {us : List Value}, Vals (ns.map V.int) us → IntsAre us ns := by
  induction ns with
  | nil => intro us r; rw [List.map_nil] at r; cases r; exact .nil
  | cons n ns ih =>
    intro us r
    rw [List.map_cons] at r
    cases r with
    | cons r1 r2 =>
      obtain ⟨t, e⟩ := r1
      subst e
      exact .cons n t (ih r2)
section
variable {X : Cx} {e : Expr} {te : TE} {lo hi : Option Expr} {tl th : TO} {pos p2 : Pos}
theorem po_none : PO X none tNoPart := by
  intro pins s σ H Q I h
  rw [evalPart_none]
  exact wpAny_pure ⟨none, H, I, .none, h⟩
theorem po_some (h : PE X e te) : PO X (some e) (tPart te) := by
  intro pins s σ H Q I hw
  rw [evalPart_some]
  refine thn (h pins s σ H _ I hw) fun u s1 ⟨x, H1, I1, r1, q1⟩ => ?_
  obtain ⟨i, rfl, q⟩ := q1
  obtain ⟨t, rfl⟩ := r1
  exact ⟨some i, H1, I1, .int i t, q⟩
def SlR (X : Cx) (r : V → Option Int → Option Int → Hp → VK → Prop) : Prop :=
  ∀ (pins : List (Addr × Obj)) (s : Shared) (σ : St) (H : Hp) (x : V) (v vl vu : Value) (lo hi : Option Int) (sl : Addr) (Q : VK), Inv X pins σ H s → RelV x v → s.heap.IsSliceOf sl vl vu .none → IsPart vl lo → IsPart vu hi → r x lo hi H Q →
    ∃ T id, typeLookup (.type T) "__getitem__" = pure (some (.builtin id)) ∧ s.TypeIs v T ∧ wpAny (model X.prog X.w) X.A (getItem v (.ref sl)) (EP X pins σ Q) X.xe s
theorem SlR.or {r r' : V → Option Int → Option Int → Hp → VK → Prop} (h : SlR X r) (h' : SlR X r') : SlR X (fun x lo hi H Q => r x lo hi H Q ∨ r' x lo hi H Q) := by
  intro pins s σ H x v vl vu lo hi sl Q I rx hs pl pu q
  rcases q with q | q
  · exact h pins s σ H x v vl vu lo hi sl Q I rx hs pl pu q
  · exact h' pins s σ H x v vl vu lo hi sl Q I rx hs pl pu q
def tSl (r : V → Option Int → Option Int → Hp → VK → Prop) (te : TE) (tl th : TO) : TE := fun σ H Q => te σ H fun x H1 => tl σ H1 fun l H2 => th σ H2 fun u H3 => r x l u H3 Q
theorem pe_slice {r : V → Option Int → Option Int → Hp → VK → Prop} (hr : SlR X r) (he : PE X e te) (hl : PO X lo tl) (hu : PO X hi th) : PE X (.Subscript e (.Slice lo hi none p2) pos) (tSl r te tl th) := by
  intro pins s σ H Q I h
  refine Subscript_ (thn (he pins s σ H _ I h) fun v s1 ⟨x, H1, I1, r1, q1⟩ => ?_)
  refine wpAny_Slice (thn (hl pins s1 σ H1 _ I1 q1) fun vl s2 ⟨l, H2, I2, pl, q2⟩ => thn (hu pins s2 σ H2 _ I2 q2) fun vu s3 ⟨u, H3, I3, pu, q3⟩ => ?_)
  rw [evalPart_none]
  refine wpAny_pure ?_
  have I4 : Inv X pins σ H3 { s3 with heap := s3.heap.push { cls := .type "slice", data := .fields #[vl, vu, .none] } } := I3.kept (t' := s3.toks) fun b ob q => Heap.get?_push_of_some _ q
  obtain ⟨T, id, hT, ht, hg⟩ := hr pins { s3 with heap := s3.heap.push { cls := .type "slice", data := .fields #[vl, vu, .none] } } σ H3 x v vl vu l u s3.heap.objs.size Q I4 r1 (Heap.IsSliceOf.new ..) pl pu q3
  show wpAny (model X.prog X.w) X.A (subscriptTail e (.Slice lo hi none p2) v (.ref s3.heap.objs.size)) (EP X pins σ Q) X.xe { s3 with heap := s3.heap.push { cls := .type "slice", data := .fields #[vl, vu, .none] } }
  exact tail_any (ops := [.ref s3.heap.objs.size, v]) ht hT hg (by with_unfolding_all rfl)
def cutV (xs : List V) (lo hi : Option Int) : List V := (xs.drop (HT.sIx xs.length 0 lo)).take (HT.sIx xs.length xs.length hi - HT.sIx xs.length 0 lo)
theorem cutV_length (xs : List V) (lo hi : Option Int) : (cutV xs lo hi).length ≤ xs.length := by
  unfold cutV
  rw [List.length_take, List.length_drop]
  omega
def rSlT (K : Fg) : V → Option Int → Option Int → Hp → VK → Prop := fun x lo hi H Q => ∃ a xs, x = .ref a ∧ SqT K H a xs ∧
  ¬ (HT.sIx xs.length 0 lo = 0 ∧ HT.sIx xs.length xs.length hi = xs.length) ∧ ∀ p, H p = none → Q (.ref p) (upd H p (.tup (cutV xs lo hi)))
theorem sl_tup : SlR X (rSlT X.K) := by
  intro pins s σ H x v vl vu lo hi sl Q I rx hs pl pu h
  obtain ⟨a, xs, rfl, hx, hw, q⟩ := h
  cases rx
  obtain ⟨its, r, ht, hz⟩ := I.tuple hx
  have hlen : its.toArray.size = xs.length := by rw [List.size_toArray]; exact r.length.symm
  refine ⟨"tuple", _, PyProof.Rows.slot_tuple_getitem.lookup, ht.typeIs, ?_⟩
  refine HT.getItem_tuple_cut ht hs pl pu (by rw [hlen]; exact hw) ?_ (by rw [hlen]; exact hz)
  rw [hlen]
  refine ⟨.ref s.heap.objs.size, _, I.laid (t' := s.toks) (o := .tup (cutV xs lo hi)) (fun b ob q => Heap.get?_push_of_some _ q) (Nat.le_refl _) ?_, rfl, q _ (I.hok.fresh (Nat.le_refl _))⟩
  exact ⟨Nat.le_trans (cutV_length xs lo hi) hz, _, (r.drop (HT.sIx xs.length 0 lo)).take (HT.sIx xs.length xs.length hi - HT.sIx xs.length 0 lo), IsTup.new _ _⟩
def rCatT (K : Fg) : R2 := fun x y H Q => ∃ a b xs ys, x = .ref a ∧ y = .ref b ∧ SqT K H a xs ∧ SqT K H b ys ∧ xs ≠ [] ∧ xs.length + ys.length ≤ sizeLine ∧
  (ys = [] → Q (.ref a) H) ∧ (ys ≠ [] → ∀ p, H p = none → Q (.ref p) (upd H p (.tup (xs ++ ys))))
theorem Vals.nil_iff {xs : List V} {us : List Value} (r : Vals xs us) : us = [] ↔ xs = [] := by
  cases r with
  | nil => simp
  | cons _ _ => simp
theorem op_catT : OpR X (binaryOp .Add) (rCatT X.K) := by
  intro pins s σ H x y v u Q I rx ry h
  obtain ⟨a, b, xs, ys, rfl, rfl, ha, hb, hx, hz, q1, q2⟩ := h
  cases rx
  cases ry
  obtain ⟨its, r1, p1, _⟩ := I.tuple ha
  obtain ⟨its2, r2, p2, _⟩ := I.tuple hb
  refine HT.cat_tup p1 p2 (fun z => hx (r1.nil_iff.mp z)) (fun z => ⟨.ref a, H, I, rfl, q1 (r2.nil_iff.mp z)⟩) (fun z => ?_) (by rw [← r1.length, ← r2.length]; exact hz)
  refine ⟨.ref s.heap.objs.size, _, I.laid (t' := s.toks) (o := .tup (xs ++ ys)) (fun b ob q => Heap.get?_push_of_some _ q) (Nat.le_refl _) ?_, rfl, q2 (fun w => z (r2.nil_iff.mpr w)) _ (I.hok.fresh (Nat.le_refl _))⟩
  exact ⟨by rw [List.length_append]; exact hz, _, r1.append r2, IsTup.new _ _⟩
end
end L2
namespace L2
open PySem PySem.Spec PyProof.Rows
def ixN (n : Nat) (i : Int) : Option Nat := if 0 ≤ i then (if i < n then some i.toNat else none) else if -(n : Int) ≤ i then some (i + n).toNat else none
def atI {α : Type} (xs : List α) (i : Int) : Option α := (ixN xs.length i).bind fun j => xs[j]?
theorem ixN_seq {n : Nat} {i : Int} {j : Nat} (h : ixN n i = some j) : seqIndex? i n = some j ∧ j < n ∧ -(n : Int) ≤ i ∧ i < n := by
  unfold ixN at h
  by_cases h0 : 0 ≤ i
  · rw [if_pos h0] at h
    by_cases h1 : i < n
    · rw [if_pos h1] at h
      have e : i.toNat = j := Option.some.inj h
      exact ⟨by rw [seqIndex_of h0 h1, e], by omega, by omega, h1⟩
    · rw [if_neg h1] at h; cases h
  · rw [if_neg h0] at h
    by_cases h1 : -(n : Int) ≤ i
    · rw [if_pos h1] at h
      have e : (i + n).toNat = j := Option.some.inj h
      exact ⟨by rw [seqIndex_neg (by omega) h1, e], by omega, h1, by omega⟩
    · rw [if_neg h1] at h; cases h
theorem atI_get {α : Type} {xs : List α} {i : Int} {v : α} (h : atI xs i = some v) : ∃ j, seqIndex? i xs.length = some j ∧ xs[j]? = some v ∧ j < xs.length ∧ -(xs.length : Int) ≤ i ∧ i < xs.length := by
  unfold atI at h
  cases e : ixN xs.length i with
  | none => rw [e] at h; cases h
  | some j =>
    rw [e] at h
    obtain ⟨h1, h2, h3, h4⟩ := ixN_seq e
    exact ⟨j, h1, h, h2, h3, h4⟩
theorem atI_nat {α : Type} {xs : List α} {j : Nat} {v : α} (h : xs[j]? = some v) : atI xs (j : Int) = some v := by
  have hj : j < xs.length := (List.getElem?_eq_some_iff.mp h).1
  have e : ixN xs.length (j : Int) = some j := by
    unfold ixN
    rw [if_pos (by omega), if_pos (by omega)]; simp
  unfold atI; rw [e]; exact h
def PlainIx (b : Expr) : Prop := ∀ o i, subscripted b false o i = operate [o, i] (getItem o i)
def IxR (X : Cx) (r : R2) : Prop :=
  ∀ (value slice : Expr) (pins : List (Addr × Obj)) (s : Shared) (σ : St) (H : Hp) (x y : V) (v u : Value) (Q : VK), Inv X pins σ H s → RelV x v → RelV y u → r x y H Q →
    subscripted slice false v u = operate [v, u] (getItem v u) → wpAny (model X.prog X.w) X.A (subscriptTail value slice v u) (EP X pins σ Q) X.xe s
def MtR (X : Cx) (id : String) (r : V → List V → Hp → VK → Prop) : Prop :=
  ∀ (pins : List (Addr × Obj)) (s : Shared) (σ : St) (H : Hp) (x : V) (xs : List V) (v : Value) (us : List Value) (Q : VK), Inv X pins σ H s → RelV x v → Vals xs us → r x xs H Q →
    wpAny (model X.prog X.w) X.A (call (.builtin id) (v :: us)) (EP X pins σ Q) X.xe s
section
variable {X : Cx} {a b : Expr} {ta tb : TE} {pos : Pos}
theorem IxR.or {r r' : R2} (h : IxR X r) (h' : IxR X r') : IxR X (fun x y H Q => r x y H Q ∨ r' x y H Q) := by
  intro value slice pins s σ H x y v u Q I rx ry q hs
  rcases q with q | q
  · exact h value slice pins s σ H x y v u Q I rx ry q hs
  · exact h' value slice pins s σ H x y v u Q I rx ry q hs
theorem pe_ix {r : R2} (hr : IxR X r) (ha : PE X a ta) (hb : PE X b tb) (hs : PlainIx b) : PE X (.Subscript a b pos) (tOp r ta tb) := by
  intro pins s σ H Q I h
  exact Subscript_ (binT ha hb I h fun v u s2 x y H2 I2 rx ry q => hr a b pins s2 σ H2 x y v u Q I2 rx ry q (hs _ _))
def rIxL (K : Fg) : R2 := fun x y H Q => ∃ p xs i v, x = .ref p ∧ y = .int i ∧ SqL K H p xs ∧ atI xs i = some v ∧ Q v H
def rIxT (K : Fg) : R2 := fun x y H Q => ∃ p xs i v, x = .ref p ∧ y = .int i ∧ SqT K H p xs ∧ atI xs i = some v ∧ Q v H
def rIxS : R2 := fun x y H Q => ∃ z i c, x = .str z ∧ y = .int i ∧ z.length ≤ sizeLine ∧ atI z.cps.toList i = some c ∧ Q (.str ⟨#[c]⟩) H
theorem ix_list : IxR X (rIxL X.K) := by
  intro value slice pins s σ H x y v u Q I rx ry h hs
  obtain ⟨p, xs, i, z, rfl, rfl, hq, he, q⟩ := h
  cases rx
  obtain ⟨t, rfl⟩ := ry
  obtain ⟨its, r, pl, hz⟩ := I.list hq
  obtain ⟨j, h1, h2, h3, h4, h5⟩ := atI_get he
  obtain ⟨w, ew, rw'⟩ := r.get h2
  have hl := r.length
  have hn := line63
  have fin : EP X pins σ Q w s := ⟨z, H, I, rw', q⟩
  by_cases h0 : 0 ≤ i
  · have hj : i.toNat = j := by
      rw [seqIndex_of h0 h5] at h1
      exact Option.some.inj h1
    exact item_listR pl.isList h0 (by omega) (by rw [hj]; simpa using ew) fin hs
  · have hj : (i + (its.toArray.size : Int)).toNat = j := by
      rw [seqIndex_neg (by omega) h4] at h1
      rw [List.size_toArray, ← hl]
      exact Option.some.inj h1
    exact subscriptTail_builtinR (x := w) pl.isList.typeIs slot_list_getitem.lookup
      (wpAny_getItem_list_neg (Q := fun r s' => r = w ∧ EP X pins σ Q r s') pl.isList (by omega) (by rw [List.size_toArray] <;> omega) (by omega) (by rw [hj]; simpa using ew) ⟨rfl, fin⟩) hs
theorem ix_tup : IxR X (rIxT X.K) := by
  intro value slice pins s σ H x y v u Q I rx ry h hs
  obtain ⟨p, xs, i, z, rfl, rfl, hq, he, q⟩ := h
  cases rx
  obtain ⟨t, rfl⟩ := ry
  obtain ⟨its, r, pl, hz⟩ := I.tuple hq
  obtain ⟨j, h1, h2, h3, h4, h5⟩ := atI_get he
  obtain ⟨w, ew, rw'⟩ := r.get h2
  have hl := r.length
  have hn := line63
  have fin : EP X pins σ Q w s := ⟨z, H, I, rw', q⟩
  exact subscriptTail_builtinR (x := w) pl.typeIs slot_tuple_getitem.lookup
    (getItem_tuple (j := j) (Q := fun r s' => r = w ∧ EP X pins σ Q r s') pl (by omega) (by omega) (by rw [List.size_toArray, ← hl]; exact h1) (by simpa using ew) ⟨rfl, fin⟩) hs
theorem ix_str : IxR X rIxS := by
  intro value slice pins s σ H x y v u Q I rx ry h hs
  obtain ⟨z, i, c, rfl, rfl, hz, he, q⟩ := h
  obtain ⟨t, rfl⟩ := rx
  obtain ⟨t', rfl⟩ := ry
  obtain ⟨j, h1, h2, h3, h4, h5⟩ := atI_get he
  have hl : z.cps.toList.length = z.length := by simp [Str.length]
  rw [hl] at h1 h4 h5
  have hn := line63
  exact tail_any (typeIs_str s z t) slot_str_getitem.lookup (getItem_str (c := c) (by
    have e1 : decide (i < -(2 ^ 63 : Int)) = false := decide_eq_false (by omega)
    have e2 : decide (i ≥ 2 ^ 63) = false := decide_eq_false (by omega)
    rw [e1, e2, Bool.or_false]) (by rw [h1]; simpa using h2) ⟨.str ⟨#[c]⟩, H, I.tok _, ⟨_, rfl⟩, q⟩) hs
def rIx (K : Fg) : R2 := fun x y H Q => rIxL K x y H Q ∨ rIxT K x y H Q ∨ rIxS x y H Q
theorem ix_seq : IxR X (rIx X.K) := ix_list.or (ix_tup.or ix_str)
theorem slice_bounds (lo hi : Option Int) (n : Nat) : (sliceBounds lo hi none n).1 = ((HT.sIx n 0 lo : Nat) : Int) ∧ (sliceBounds lo hi none n).2.1 = ((HT.sIx n n hi : Nat) : Int) ∧ (sliceBounds lo hi none n).2.2 = 1 := by
  refine ⟨?_, ?_, rfl⟩
  · cases lo with
    | none => simp [sliceBounds, HT.sIx]
    | some i =>
      simp only [sliceBounds, HT.sIx, Option.getD_none, show (1 : Int) > 0 by decide, if_true]
      by_cases h : i < 0
      · simp only [h, if_true] <;> omega
      · simp only [h, if_false] <;> omega
  · cases hi with
    | none => simp [sliceBounds, HT.sIx]
    | some i =>
      simp only [sliceBounds, HT.sIx, Option.getD_none, show (1 : Int) > 0 by decide, if_true]
      by_cases h : i < 0
      · simp only [h, if_true] <;> omega
      · simp only [h, if_false] <;> omega
theorem slicePick_cut (its : List Value) (lo hi : Option Int) : slicePick its.toArray lo hi none = ((its.drop (HT.sIx its.length 0 lo)).take (HT.sIx its.length its.length hi - HT.sIx its.length 0 lo)).toArray := by
  obtain ⟨h1, h2, h3⟩ := slice_bounds lo hi its.toArray.size
  unfold slicePick
  rw [h1, h2, h3]
  simp only [sliceRange_one, pick_run, List.size_toArray] <;> rfl
def rSlL (K : Fg) : V → Option Int → Option Int → Hp → VK → Prop := fun x lo hi H Q => ∃ a xs, x = .ref a ∧ SqL K H a xs ∧ ∀ p, H p = none → Q (.ref p) (upd H p (.lst (cutV xs lo hi)))
theorem sl_list : SlR X (rSlL X.K) := by
  intro pins s σ H x v vl vu lo hi sl Q I rx hs pl pu h
  obtain ⟨a, xs, rfl, hx, q⟩ := h
  cases rx
  obtain ⟨its, r, ht, hz⟩ := I.list hx
  have hlen := r.length
  refine ⟨"list", _, slot_list_getitem.lookup, ht.isList.typeIs, ?_⟩
  refine wpAny_getItem_list_slice ht.isList hs pl pu .none (by simp) ?_ (by rw [List.size_toArray] <;> omega)
  rw [slicePick_cut, ← hlen]
  refine ⟨.ref s.heap.objs.size, _, I.laid (t' := s.toks) (o := .lst (cutV xs lo hi)) (fun b ob q => Heap.get?_push_of_some _ q) (Nat.le_refl _) ?_, rfl, q _ (I.hok.fresh (Nat.le_refl _))⟩
  exact ⟨Nat.le_trans (cutV_length xs lo hi) hz, _, 0, (r.drop (HT.sIx xs.length 0 lo)).take (HT.sIx xs.length xs.length hi - HT.sIx xs.length 0 lo), Heap.get?_push_size _ rfl⟩
def flatV : V → Bool
  | .non => true
  | .bl _ => true
  | .int _ => true
  | .str _ => true
  | _ => false
def eqV : V → V → Bool
  | .non, .non => true
  | .bl a, .bl b => a == b
  | .bl a, .int b => (if a then 1 else 0) == b
  | .int a, .bl b => a == (if b then 1 else 0)
  | .int a, .int b => a == b
  | .str a, .str b => a == b
  | _, _ => false
theorem eqAt_V {A : Around} {s : Shared} {y x : V} {u v : Value} (ry : RelV y u) (rx : RelV x v) (fy : flatV y = true) (fx : flatV x = true) : SeqAt.EqAt A s u v (eqV y x) := by
  cases y with
  | non =>
    cases ry
    cases x with
    | non => cases rx; exact SeqAt.EqAt.same _
    | bl b => cases rx; exact SeqAt.EqAt.none_bool b
    | int b => obtain ⟨t, rfl⟩ := rx; exact SeqAt.EqAt.none_int b t
    | str b => obtain ⟨t, rfl⟩ := rx; exact SeqAt.EqAt.none_str b t
    | _ => exact absurd (show false = true from fx) Bool.false_ne_true
  | bl a =>
    cases ry
    cases x with
    | non => cases rx; exact SeqAt.EqAt.bool_none a
    | bl b => cases rx; exact SeqAt.EqAt.bool_bool a b
    | int b => obtain ⟨t, rfl⟩ := rx; exact SeqAt.EqAt.bool_int a b t
    | str b => obtain ⟨t, rfl⟩ := rx; exact SeqAt.EqAt.bool_str a b t
    | _ => exact absurd (show false = true from fx) Bool.false_ne_true
  | int a =>
    obtain ⟨t', rfl⟩ := ry
    cases x with
    | non => cases rx; exact SeqAt.EqAt.int_none a t'
    | bl b => cases rx; exact SeqAt.EqAt.int_bool a t' b
    | int b => obtain ⟨t, rfl⟩ := rx; exact SeqAt.EqAt.int_int a t' b t
    | str b => obtain ⟨t, rfl⟩ := rx; exact SeqAt.EqAt.int_str a t' b t
    | _ => exact absurd (show false = true from fx) Bool.false_ne_true
  | str a =>
    obtain ⟨t', rfl⟩ := ry
    cases x with
    | non => cases rx; exact SeqAt.EqAt.str_none a t'
    | bl b => cases rx; exact SeqAt.EqAt.str_bool a t' b
    | int b => obtain ⟨t, rfl⟩ := rx; exact SeqAt.EqAt.str_int a t' b t
    | str b => obtain ⟨t, rfl⟩ := rx; exact SeqAt.EqAt.str_str a t' b t
    | _ => exact absurd (show false = true from fx) Bool.false_ne_true
  | _ => exact absurd (show false = true from fy) Bool.false_ne_true
theorem call_len_seq : CallR X (.builtin "len") (fun xs H Q => ∃ p ys, xs = [.ref p] ∧ (SqL X.K H p ys ∨ SqT X.K H p ys) ∧ Q (.int ys.length) H) := by
  intro pins s σ H xs us Q I r h
  obtain ⟨p, ys, rfl, hq, q⟩ := h
  obtain ⟨u, rfl, rx⟩ := vals1 r
  cases rx
  have hn := line63
  rcases hq with hq | hq
  · obtain ⟨its, r', pl, hz⟩ := I.list hq
    have hlen := r'.length
    exact Calls.call_len_list pl.isList (by simp only [List.size_toArray] <;> omega) ⟨.int ys.length, H, I.tok _, ⟨s.toks + 1, by rw [List.size_toArray, hlen]⟩, q⟩
  · obtain ⟨its, r', pl, hz⟩ := I.tuple hq
    have hlen := r'.length
    exact len_tuple pl (by simp only [List.size_toArray] <;> omega) ⟨.int ys.length, H, I.tok _, ⟨s.toks + 1, by rw [List.size_toArray, hlen]⟩, q⟩
theorem call_len_str : CallR X (.builtin "len") (fun xs H Q => ∃ z, xs = [.str z] ∧ z.length ≤ sizeLine ∧ Q (.int z.length) H) := by
  intro pins s σ H xs us Q I r h
  obtain ⟨z, rfl, hz, q⟩ := h
  obtain ⟨u, rfl, t, rfl⟩ := vals1 r
  have hn := line63
  exact len_str (by omega) ⟨.int z.length, H, I.tok _, ⟨_, rfl⟩, q⟩
theorem CallR.or {f : Value} {r r' : List V → Hp → VK → Prop} (h : CallR X f r) (h' : CallR X f r') : CallR X f (fun xs H Q => r xs H Q ∨ r' xs H Q) := by
  intro pins s σ H xs us Q I rs q
  rcases q with q | q
  · exact h pins s σ H xs us Q I rs q
  · exact h' pins s σ H xs us Q I rs q
theorem call_tuple_of : CallR X (.type "tuple") (fun xs H Q => ∃ p ys, xs = [.ref p] ∧ ((SqL X.K H p ys ∧ ∀ l, H l = none → Q (.ref l) (upd H l (.tup ys))) ∨ (SqT X.K H p ys ∧ Q (.ref p) H))) := by
  intro pins s σ H xs us Q I r h
  obtain ⟨p, ys, rfl, h⟩ := h
  obtain ⟨u, rfl, rx⟩ := vals1 r
  cases rx
  rcases h with ⟨hq, q⟩ | ⟨hq, q⟩
  · obtain ⟨its, r', pl, hz⟩ := I.list hq
    have hlen := r'.length
    refine call_tuple_list pl.isList (fun h' kp => ?_) (by simp only [List.size_toArray] <;> omega)
    have I1 : Inv X pins σ H { s with heap := h' } := I.kept (t' := s.toks) kp
    have I2 : Inv X pins σ (upd H h'.objs.size (.tup ys)) { s with heap := h'.push { cls := .type "tuple", data := .seq its.toArray } } :=
      I1.laid (t' := s.toks) (fun b o e => Heap.get?_push_of_some _ e) (Nat.le_refl _) (show ObjOk X.prog X.w _ _ _ (.tup ys) from ⟨hz, its, r', IsTup.new _ _⟩)
    exact ⟨.ref h'.objs.size, _, I2, rfl, q _ (I1.hok.fresh (Nat.le_refl _))⟩
  · obtain ⟨its, r', pl, hz⟩ := I.tuple hq
    exact call_tuple_same pl ⟨.ref p, H, I, rfl, q⟩
def tyV (K : Fg) (T : String) (x : V) (H : Hp) : Prop := match x with
  | .str _ => T = "str"
  | .int _ => T = "int"
  | .ref p => (T = "list" ∧ ∃ xs, SqL K H p xs) ∨ (T = "tuple" ∧ ∃ o, K.lookup p = some o ∧ o.cls = .type "tuple" ∧ o.dict = none) ∨
      (T = "dict" ∧ ((∃ kvs, H p = some (.dK kvs)) ∨ ∃ kvs, H p = some (.dT kvs))) ∨ (T = "set" ∧ ∃ S n, H p = some (.set S n))
  | _ => False
theorem tyV_is {pins : List (Addr × Obj)} {σ : St} {H : Hp} {s : Shared} {T : String} {x : V} {v : Value} (I : Inv X pins σ H s) (r : RelV x v) (ty : tyV X.K T x H) :
    s.TypeIs v T ∧ ∀ a, v = .ref a → ∃ ob, s.heap.get? a = some ob ∧ ob.dict = none := by
  cases x with
  | str z =>
    obtain ⟨t, rfl⟩ := r
    cases (show T = "str" from ty)
    exact ⟨typeIs_str s z t, fun _ e => nomatch e⟩
  | int i =>
    obtain ⟨t, rfl⟩ := r
    cases (show T = "int" from ty)
    exact ⟨typeIs_int s i t, fun _ e => nomatch e⟩
  | ref p =>
    cases r
    rcases ty with ⟨rfl, xs, hq⟩ | ⟨rfl, o, hk, hc, hd⟩ | ⟨rfl, hk⟩ | ⟨rfl, S, n, hk⟩
    · obtain ⟨its, _, pl, _⟩ := I.list hq
      refine ⟨pl.isList.typeIs, fun a e => ?_⟩
      cases e
      obtain ⟨o, n, e, c, hd, _⟩ := pl
      exact ⟨o, e, hd⟩
    · refine ⟨⟨o, I.kIn p o hk, hc⟩, fun a e => ?_⟩
      cases e
      exact ⟨o, I.kIn _ o hk, hd⟩
    · have z : ∃ o, s.heap.get? p = some o ∧ o.ExactDict := by
        rcases hk with ⟨kvs, hk⟩ | ⟨kvs, hk⟩
        · obtain ⟨_, _, _, _, o, _, _, e, ex, _⟩ := I.hok p _ hk
          exact ⟨o, e, ex⟩
        · obtain ⟨_, _, _, _, o, _, _, e, ex, _⟩ := I.hok p _ hk
          exact ⟨o, e, ex⟩
      obtain ⟨o, e, ex⟩ := z
      refine ⟨⟨o, e, ex.1⟩, fun a e2 => ?_⟩
      cases e2
      exact ⟨o, e, ex.2.1⟩
    · obtain ⟨o, _, _, _, e, ex, _⟩ := I.hok p _ hk
      refine ⟨⟨o, e, ex.1⟩, fun a e2 => ?_⟩
      cases e2
      exact ⟨o, e, ex.2.1⟩
  | _ => exact False.elim ty
def tBM0 (K : Fg) (T : String) (r : V → List V → Hp → VK → Prop) (to : TE) : TE := fun σ H Q => to σ H fun x H1 => tyV K T x H1 ∧ r x [] H1 Q
def tBM (K : Fg) (T : String) (r : V → List V → Hp → VK → Prop) (to : TE) (t : TA) : TE := fun σ H Q => to σ H fun x H1 => tyV K T x H1 ∧ t σ H1 fun xs H2 => r x xs H2 Q
variable {o e : Expr} {es : List Expr} {to : TE} {t : TA} {name : Str} {apos cpos : Pos} {T id : String} {r : V → List V → Hp → VK → Prop}
theorem pe_bm0 (pa : PlainAttrs T) (slot : Slot T name id) (hty : typeOf (.builtin id) = pure (.type "method_descriptor")) (hm : MtR X id r) (ho : PE X o to)
    (hbase : attributeBase o name X.env (eval o X.env) = eval o X.env := by rfl) (hline : (apos.endLine == cpos.line) = true := by rfl) : PE X (.Call (.Attribute o name apos) [] [] cpos) (tBM0 X.K T r to) := by
  intro pins s σ H Q I h
  refine wpAny_Call_method0_late hbase hline (thn (ho pins s σ H _ I h) fun v s1 ⟨x, H1, I1, r1, ty, q1⟩ => ?_)
  obtain ⟨h1, h2⟩ := tyV_is I1 r1 ty
  exact ⟨T, id, pa, slot, hty, h1, h2, Calls.callWith_builtin rfl (PySem.evalArgs_none (hm pins s1 σ H1 x [] v [] Q I1 r1 .nil q1))⟩
theorem pe_bm (pa : PlainAttrs T) (slot : Slot T name id) (hty : typeOf (.builtin id) = pure (.type "method_descriptor")) (hm : MtR X id r) (ho : PE X o to) (ha : PA X (e :: es) t)
    (hbase : attributeBase o name X.env (eval o X.env) = eval o X.env := by rfl)
    (hfew : ((backTo cpos (starEach (e :: es) X.env)).all (fun x => !x.1) && (backToKw cpos (keywordEach [] X.env)).all (fun x => x.1.isSome)
      && decide ((e :: es).length + ([] : List Keyword).length + (if ([] : List Keyword).isEmpty then 0 else 1) < 30)) = true := by rfl)
    (hline : (apos.endLine == cpos.line) = true := by rfl) (hs : starEach (e :: es) X.env = (false, eval e X.env) :: starEach es X.env := by rfl) (hplain : (backTo cpos (starEach es X.env)).any (·.1) = false := by rfl) :
    PE X (.Call (.Attribute o name apos) (e :: es) [] cpos) (tBM X.K T r to t) := by
  intro pins s σ H Q I h
  refine wpAny_Call_method_late hbase hfew hline rfl (thn (ho pins s σ H _ I h) fun v s1 ⟨x, H1, I1, r1, ty, q1⟩ => ?_)
  obtain ⟨h1, h2⟩ := tyV_is I1 r1 ty
  refine ⟨T, id, pa, slot, hty, h1, h2, ?_⟩
  have hA := ha cpos pins s1 σ H1 _ I1 q1
  rw [hs] at hA ⊢
  refine Calls.callWith_builtin (by show (false || (backTo cpos (starEach es X.env)).any (·.1)) = false; rw [hplain] <;> rfl) (Calls.evalArgs_plain ?_)
  exact thn hA fun us s2 ⟨vs, H2, I2, r2, q2⟩ => hm pins s2 σ H2 x vs v us Q I2 r1 r2 q2
end
end L2
namespace L2
open PySem PySem.Spec PyProof.Rows
def MtM (X : Cx) (id : String) (r : V → List V → Hp → VK → Prop) : Prop :=
  ∀ (pins : List (Addr × Obj)) (s : Shared) (σ : St) (H : Hp) (x : V) (xs : List V) (v : Value) (us : List Value) (Q : VK), Inv X pins σ H s → RelV x v → Vals xs us → r x xs H Q →
    wpAny (model X.prog X.w) X.A (call (.builtin id) (v :: us)) (EP X pins σ Q) X.xe s
theorem Vals.one : ∀ {x : V} {us : List Value}, Vals [x] us → ∃ u, us = [u] ∧ RelV x u
  | _, _, .cons r .nil => ⟨_, rfl, r⟩
theorem Vals.two : ∀ {x y : V} {us : List Value}, Vals [x, y] us → ∃ u v, us = [u, v] ∧ RelV x u ∧ RelV y v
  | _, _, _, .cons r (.cons q .nil) => ⟨_, _, rfl, r, q⟩
theorem Vals.zero : ∀ {us : List Value}, Vals [] us → us = []
  | _, .nil => rfl
theorem Vals.dropLast {xs : List V} {us : List Value} (h : Vals xs us) : Vals xs.dropLast us.dropLast := by
  induction h with
  | nil => exact .nil
  | cons r t ih =>
    cases t with
    | nil => exact .nil
    | cons q t' => exact .cons r ih
theorem Vals.reverse {xs : List V} {us : List Value} (h : Vals xs us) : Vals xs.reverse us.reverse := by
  induction h with
  | nil => exact .nil
  | cons r t ih => rw [List.reverse_cons, List.reverse_cons]; exact Vals.append ih (.cons r .nil)
theorem erase_last {α : Type} (l : List α) : l.eraseIdx (l.length - 1) = l.dropLast := by
  induction l with
  | nil => rfl
  | cons a r ih =>
    cases r with
    | nil => rfl
    | cons b r =>
      have e : (a :: b :: r).length - 1 = ((b :: r).length - 1) + 1 := by
        have h1 : (a :: b :: r).length = r.length + 2 := rfl
        have h2 : (b :: r).length = r.length + 1 := rfl
        omega
      rw [e, List.eraseIdx_cons_succ, ih]
      all_goals rfl
section
variable {X : Cx} {pins : List (Addr × Obj)} {σ : St} {H : Hp} {s : Shared} {l b : Addr} {xs ys zs : List V}
theorem Inv.lset {its its' : List Value} {n : Nat} {f : Array Value → Array Value} {t' : Nat} (I : Inv X pins σ H s) (hH : H l = some (.lst xs))
    (e : s.heap.get? l = some { cls := .type "list", data := .seq its.toArray n }) (hf : f its.toArray = its'.toArray) (hv : Vals ys its') (hz : ys.length ≤ sizeLine) :
    Inv X pins σ (upd H l (.lst ys)) { s with heap := s.heap.update l (Obj.mapSeq f), toks := t' } := by
  have q := PySem.IsL.update e f
  rw [hf] at q
  refine I.write (x := l) (e := l) (by rw [hH]; exact trivial) (.inl rfl) (fun b' u hb hu => (Heap.get?_update_other s.heap (Obj.mapSeq f) (Ne.symm hb)).trans hu) ⟨_, q⟩ ?_
  exact ⟨hz, its', _, hv, q⟩
theorem Inv.lnew {its : List Value} {t' : Nat} (I : Inv X pins σ H s) (hv : Vals ys its) (hz : ys.length ≤ sizeLine) :
    Inv X pins σ (upd H s.heap.objs.size (.lst ys)) { s with heap := s.heap.push { cls := .type "list", data := .seq its.toArray }, toks := t' } :=
  I.laid (fun _ _ q => Heap.get?_push_of_some _ q) (Nat.le_refl _) ⟨hz, its, 0, hv, Heap.get?_push_size _ rfl⟩
theorem Inv.fresh (I : Inv X pins σ H s) : H s.heap.objs.size = none := I.hok.fresh (Nat.le_refl _)
theorem Inv.lstM (I : Inv X pins σ H s) (hH : H l = some (.lst xs)) : xs.length ≤ sizeLine ∧ ∃ (its : List Value) (n : Nat), Vals xs its ∧ xs.length = its.length ∧ s.heap.get? l = some { cls := .type "list", data := .seq its.toArray n } := by
  obtain ⟨z, its, n, r, e⟩ := I.hok l _ hH
  exact ⟨z, its, n, r, r.length, e⟩
theorem notLongL {n : Nat} (h : n ≤ sizeLine) : Builtin.List.listTooLong n = false := by
  unfold Builtin.List.listTooLong
  exact decide_eq_false (by omega)
end
section
variable {X : Cx}
def rAppend : V → List V → Hp → VK → Prop := fun x vs H Q => ∃ l xs y, x = .ref l ∧ vs = [y] ∧ H l = some (.lst xs) ∧ xs.length < sizeLine ∧ Q .non (upd H l (.lst (xs ++ [y])))
theorem mt_append : MtM X "list.append" rAppend := by
  intro pins s σ H x vs v us Q I rx rv h
  obtain ⟨l, xs, y, rfl, rfl, hH, hz, q⟩ := h
  cases rx
  obtain ⟨u, rfl, ru⟩ := rv.one
  obtain ⟨z, its, n, r, hl, e⟩ := I.lstM hH
  refine call_meets F.slot_list_append ⟨_, e, rfl⟩ F.entry_list_append (F.args_list_append_2 _ _) (PySem.list_append l its.toArray n u (by rw [List.size_toArray]; omega)) ⟨e, ?_⟩
  refine ⟨.non, _, I.lset (its' := its ++ [u]) hH e (by simp) (r.append (.cons ru .nil)) ?_, rfl, q⟩
  rw [List.length_append, List.length_singleton]
  omega
def rPop : V → List V → Hp → VK → Prop := fun x vs H Q => ∃ l xs y, x = .ref l ∧ vs = [] ∧ H l = some (.lst xs) ∧ xs[xs.length - 1]? = some y ∧ Q y (upd H l (.lst xs.dropLast))
theorem mt_pop : MtM X "list.pop" rPop := by
  intro pins s σ H x vs v us Q I rx rv h
  obtain ⟨l, xs, y, rfl, rfl, hH, hy, q⟩ := h
  cases rx
  have hus := rv.zero
  subst hus
  obtain ⟨z, its, n, r, hl, e⟩ := I.lstM hH
  obtain ⟨u, hu, ru⟩ := r.get hy
  have hy' : its.toArray[its.toArray.size - 1]? = some u := by
    show its.toArray[its.length - 1]? = some u
    rw [← Array.getElem?_toList, ← hl]
    exact hu
  refine call_meets F.slot_list_pop ⟨_, e, rfl⟩ F.entry_list_pop (F.args_list_pop_1 _) (MeetsSeq.list_pop_last l its.toArray n u hy' (by rw [List.size_toArray]; omega)) ⟨e, ?_⟩
  refine ⟨y, _, I.lset (its' := its.dropLast) hH e ?_ r.dropLast ?_, ru, q⟩
  · show its.toArray.eraseIdxIfInBounds (its.toArray.size - 1) = its.dropLast.toArray
    rw [List.size_toArray, List.eraseIdxIfInBounds_toArray, erase_last]
  · rw [List.length_dropLast]
    omega
end
end L2
namespace Att
open PySem PySem.W PySem.Calls PyProof.Rows
theorem ints_of_wellAll {P : Params} {h : Heap} : ∀ (ns : List Int) (vs : List Value), WellAll P h vs (ns.map WData.int) → IntsAre vs ns := by
  intro ns
  induction ns with
  | nil =>
    intro vs w
    rw [List.map_nil] at w
    cases w
    exact .nil
  | cons n ns ih =>
    intro vs w
    rw [List.map_cons] at w
    cases w with
    | cons a b =>
      cases a
      exact .cons _ _ (ih _ b)
theorem script_of {l : OpenLaw} {n : Nat} (hn : l.most = some n) {P : Params} {h : Heap} {args : List WData} {vals : List Value}
    (hpre : l.row.toRowW.claim.pre args = true) (hwl : WellAll P h vals args) :
    ∃ a vs ns, vals = [Value.ref a] ∧ args = [WData.list (ns.map WData.int)] ∧ h.get? a = some { cls := .type "list", data := .seq vs.toArray } ∧ IntsAre vs ns ∧ ns.length ≤ n := by
  have hsh : WShape.hasAll [] args [.list .int] = true := (pre_splitW hpre).1
  have hc : l.pre.holds [] { args := args } = true := (pre_splitW hpre).2
  obtain ⟨d, r, rfl, h1, h2⟩ := hasAllW_cons hsh
  obtain rfl := hasAllW_nil h2
  obtain ⟨xs, rfl, h3⟩ := hasW_list h1
  obtain ⟨ns, rfl⟩ := items_int h3
  have hlen : ns.length ≤ n := by
    unfold OpenLaw.pre at hc
    have h4 : (WTm.not (.lt (.lit (.int (n : Int))) (.len (.arg 0)))).holds [] { args := [.list (ns.map .int)] } = true := by
      have h4 := (holds_andW hc).1
      rw [hn] at h4
      exact h4
    have h5 := condW_of h4 (w_not (w_lt w_lit (w_len_list (w_arg rfl))))
    rw [List.length_map] at h5
    refine Nat.le_of_not_lt fun q => ?_
    have q' : (n : Int) < ((ns.length : Nat) : Int) := by omega
    first
      | (rw [decide_eq_true q'] at h5; exact absurd h5 (by decide))
      | (simp at h5; omega)
  cases hwl with
  | cons w1 w2 =>
    cases w2
    cases w1 with
    | list ho hall => exact ⟨_, _, ns, rfl, rfl, ho, ints_of_wellAll ns _ hall, hlen⟩
theorem post_true (l : OpenLaw) (args : List WData) : l.row.toRowW.claim.post args (.bool true) args = true :=
  postW_of (r := l.row.toRowW) (X := (true == true))
    (show WShape.has [] (.bool true) .bool = true by first | rfl | decide | simp [WShape.has, WShape.arms, WShape.armsAll])
    (show (WTm.eq .res (.lit (.bool true))).value [] { args := args, res := some (.bool true), after := args } = some (.bool (true == true)) from w_eq_bool (w_res rfl) w_lit) rfl
theorem attach_call {l : OpenLaw} {n : Nat} {q : Program} {loose : List Str} {XP : (Str → Option Value) → Heap → Prop} {YP : World → Heap → Prop} {d : DefRec}
    (hn : l.most = some n) (hdf : d.params.defaults = [])
    (call : ∀ (w : World) (s₀ s₁ : Shared) (mg mb : Str → Option Value) (fa : Addr) (o : Obj) (pm cd doc : Value) (a : Addr) (vs : List Value) (ns : List Int),
      Ground q loose [] XP w s₀ mg mb s₁.heap → YP w s₁.heap →
      s₁.heap.get? fa = some o → o.data = .func (docDef d.name d.params d.body d.scope pm cd doc) → s₁.heap.CodeRec cd d.name → mg d.name = some (.ref fa) →
      s₁.heap.get? a = some { cls := .type "list", data := .seq vs.toArray } → IntsAre vs ns → ns.length ≤ n → s₁.gens = #[] →
      codeAny (model l.prog w) callerA (.call (.ref fa) ⟨[.ref a], []⟩) (fun r s' => r = .ok (.ret (.bool true)) ∧ OldK s₁.heap s'.heap ∧ s'.os = s₁.os ∧ AllBare s'.gens) s₁) :
    WalkO q loose XP YP l.row.toRowW d [] (fun f vs => PySem.call f vs) := by
  intro w s₀ s₁ mg mb G Y fa o pm cd doc dV kV ho hd hcd hD hmg hg args vals as hpre hlay hrd hwl hlo
  obtain rfl : dV = .none := Dflts.none hD hdf
  obtain rfl : kV = .none := Dflts.noKw hD
  obtain ⟨a, vs, ns, rfl, rfl, hobj, hints, hlen⟩ := script_of hn hpre hwl
  refine enter_call (codeAny_mono (call w s₀ s₁ mg mb fa o pm cd doc a vs ns G Y ho (fd_plain hd) hcd hmg hobj hints hlen hg) fun r s' hq => ?_)
  obtain ⟨rfl, h2, h3, h4⟩ := hq
  exact ⟨.inl ⟨.bool true, .bool true, [], rfl, fun _ => rfl, .bool true, post_true l _, fun _ => ⟨List.Pairwise.nil, fun _ hm => (nomatch hm)⟩⟩, h2, h3, h4⟩
end Att
namespace L2
open PySem PySem.Spec PyProof.Rows
theorem vals_ints : ∀ {vs : List Value} {ns : List Int}, IntsAre vs ns → Vals (ns.map V.int) vs
  | _, _, .nil => .nil
  | _, _, .cons n t h => .cons ⟨t, rfl⟩ (vals_ints h)
def Only (H : Hp) : Prop := ∀ b, H b = none ∨ ∃ o xs, H b = some (.frz o (.lst xs))
theorem law_call {P : Program} {w : World} {K : Fg} {mg mb : Str → Option Value} {CX : CXT} {k : Nat} {fa a : Addr} {fd : FuncData} {x : Str} {sp : Sp} {s₁ : Shared} {vs : List Value} {ns : List Int}
    (KX : K.In s₁.heap) (hns : s₁.heap.Ns mainGlobals mg) (hb : s₁.heap.Ns builtinsNs mb) (hbb : ∀ x : Str, x ≠ "__name__" → mb x = bootBuiltins x) (hlim : s₁.heap.NoLimit) (hg : s₁.gens = #[])
    (ha : s₁.heap.get? a = some { cls := .type "list", data := .seq vs.toArray }) (hi : IntsAre vs ns) (hl : ns.length ≤ sizeLine) (hr : Room k callerA)
    (F : ∀ base : Heap, K.In base → base.Ns mainGlobals mg → FnOk P w K mg base CX k fa fd [x] sp) (hbind : ∀ (s : Shared) (u : Value), BindsTo s fd ⟨[u], []⟩ [(x, u)])
    (hsp : ∀ H : Hp, Only H → SqL K H a (ns.map V.int) → sp [.ref a] H (fun v _ => v = .bl true) fun _ _ _ => False)
    (hCX : ∀ H e s', CX [] H s₁ (fun _ _ _ => False) e s' → False) :
    codeAny (model P w) callerA (.call (.ref fa) ⟨[.ref a], []⟩) (fun r s' => r = .ok (.ret (.bool true)) ∧ OldK s₁.heap s'.heap ∧ s'.os = s₁.os ∧ AllBare s'.gens) s₁ := by
  have rv := vals_ints hi
  have lenV := hi.length
  have core : ∀ H : Hp, Only H → SqL K H a (ns.map V.int) → HOk P w H s₁.heap → (∀ b, H b ≠ none → b = a) → (H a ≠ none → K.lookup a = none) →
      codeAny (model P w) callerA (.call (.ref fa) ⟨[.ref a], []⟩) (fun r s' => r = .ok (.ret (.bool true)) ∧ OldK s₁.heap s'.heap ∧ s'.os = s₁.os ∧ AllBare s'.gens) s₁ := by
    intro H hO hS hok hA hK
    have base_of : ∀ {b : Addr} {o : Obj}, s₁.heap.get? b = some o → H b = none → (hidT s₁.heap H).get? b = some o := fun e n => hidT_get e n
    have noA : ∀ {b : Addr} {o : Obj} {es : Array DictEntry} {ep : Nat}, s₁.heap.get? b = some o → o.data = .dict es ep → H b = none := fun {b o es ep} e d => by
      cases q : H b with
      | none => rfl
      | some u =>
        have e' : b = a := hA b (by rw [q]; simp)
        subst e'
        rw [ha] at e; cases e
        have d' : Data.seq vs.toArray _ = Data.dict es ep := d
        cases d'
    have nsK : ∀ {b : Addr} {m : Str → Option Value}, s₁.heap.Ns b m → (hidT s₁.heap H).Ns b m := fun {b m} ⟨o, es, ep, e, d, r⟩ => ⟨o, es, ep, base_of e (noA e d), d, r⟩
    have hKb : K.In (hidT s₁.heap H) := fun b o e => base_of (KX b o e) (by
      cases q : H b with
      | none => rfl
      | some u =>
        have e' : b = a := hA b (by rw [q]; simp)
        subst e'
        rw [hK (by rw [q]; simp)] at e; cases e)
    have hM : Mod K mg (hidT s₁.heap H) := ⟨hKb, nsK hns, ⟨mb, nsK hb, hbb⟩, let ⟨mc, h1, h2⟩ := hlim; ⟨mc, nsK h1, h2⟩⟩
    have e0 : Env0 P w K mg (hidT s₁.heap H) callerA [] s₁ H := ⟨rfl, hM, fun b o e => of_hidT e, Nat.le_of_eq (hidT_size _ _), trivial, fun b hb => absurd (show b ∈ ([] : List Addr) from hb) (by simp), hok, .of_eq hg⟩
    refine codeAny_mono ((F _ hKb (nsK hns)).run callerA [] s₁ H ⟨[.ref a], []⟩ [.ref a] [.ref a] _ _ hr e0 (hbind s₁ (.ref a)) (.cons rfl .nil) (hsp H hO hS)) fun r s' h => ?_
    cases r with
    | error e => exact (hCX H e s' h).elim
    | ok fl =>
      cases fl with
      | next => exact False.elim h
      | brk => exact False.elim h
      | cont => exact False.elim h
      | ret u =>
        obtain ⟨v, H', os, bare, un, hok', r', q⟩ := h
        have q' : v = .bl true := q
        subst q'
        obtain rfl : u = Value.bool true := r'
        refine ⟨rfl, OldK.of_keep fun b o e => ?_, os, bare⟩
        cases q : H b with
        | none => exact un.keep b o e q (by intro z; exact absurd (show b ∈ ([] : List Addr) from z) (by simp)) (by simp)
        | some u =>
          rcases hO b with z | ⟨ob, xs, z⟩
          · rw [q] at z; cases z
          · have z2 := un.frzs b ob _ z
            obtain ⟨e1, _⟩ := hok b _ z
            obtain ⟨e2, _⟩ := hok' b _ z2
            rw [e] at e1; cases e1
            exact e2
  cases hk : K.lookup a with
  | some o =>
    have e := KX a o hk
    rw [ha] at e
    cases e
    refine core (fun _ => none) (fun _ => .inl rfl) (.inr ⟨_, vs.toArray, _, hk, rfl, rfl, rfl, by rw [List.size_toArray, lenV]; exact hl, by simpa using rv⟩) (fun b u z => by have z' : (none : Option HO) = some u := z; cases z') (fun b z => absurd rfl z) fun z => absurd rfl z
  | none =>
    refine core (fun b => if b = a then some (.frz { cls := .type "list", data := .seq vs.toArray } (.lst (ns.map V.int))) else none) (fun b => ?_) (.inl (.inr ⟨{ cls := .type "list", data := .seq vs.toArray }, if_pos rfl⟩)) (fun b u z => ?_) (fun b z => ?_) fun _ => hk
    · by_cases hb : b = a
      · exact .inr ⟨_, _, if_pos hb⟩
      · exact .inl (if_neg hb)
    · by_cases hb : b = a
      · have z' := (if_pos hb).symm.trans z
        cases z'
        subst hb
        exact ⟨ha, by rw [List.length_map]; exact hl, vs, _, rv, ha⟩
      · have z' := (if_neg hb).symm.trans z
        cases z'
    · by_cases hb : b = a
      · exact hb
      · exact absurd (if_neg hb) z
end L2
namespace L2
open PySem PySem.Spec PyProof.Rows
theorem walk_of {l : PySem.W.OpenLaw} {n k : Nat} {q : Program} {loose : List Str} {XP : (Str → Option Value) → Heap → Prop} {YP : World → Heap → Prop} {d : DefRec} {K : Params → Fg} {CX : World → CXT} {sp : World → Sp} {x : Str}
    (hn : l.most = some n) (hn2 : n ≤ sizeLine) (hdf : d.params.defaults = []) (hr : Room k callerA)
    (hY : ∀ (w : World) (h : Heap), YP w h → (K w.params).In h)
    (F : ∀ (w : World) (mg : Str → Option Value) (fa : Addr) (h : Heap), (K w.params).In h → h.Ns mainGlobals mg → mg d.name = some (.ref fa) →
      ∃ fd : FuncData, (∀ (s : Shared) (u : Value), BindsTo s fd ⟨[u], []⟩ [(x, u)]) ∧
        ∀ base : Heap, (K w.params).In base → base.Ns mainGlobals mg → FnOk l.prog w (K w.params) mg base (CX w) k fa fd [x] (sp w))
    (hsp : ∀ (w : World) (H : Hp) (a : Addr) (ns : List Int), ns.length ≤ n → Only H → SqL (K w.params) H a (ns.map V.int) → sp w [.ref a] H (fun v _ => v = .bl true) fun _ _ _ => False)
    (hCX : ∀ (w : World) (H : Hp) (s : Shared) (e : Value) (s' : Shared), CX w [] H s (fun _ _ _ => False) e s' → False) :
    PySem.W.WalkO q loose XP YP l.row.toRowW d [] (fun f vs => PySem.call f vs) := by
  refine Att.attach_call hn hdf fun w s₀ s₁ mg mb fa o pm cd doc a vs ns G Y ho hd hcd hmg hobj hints hlen hg => ?_
  have KX := hY w _ Y
  obtain ⟨fd, hb, hF⟩ := F w mg fa _ KX G.T.g hmg
  exact law_call KX G.T.g G.T.b G.T.builtins G.T.nolimit hg hobj hints (Nat.le_trans hlen hn2) hr hF hb (fun H hO hS => hsp w H a ns hlen hO hS) fun H e s' => hCX w H s₁ e s'
theorem walk_ofK {l : PySem.W.OpenLaw} {n k : Nat} {q : Program} {loose : List Str} {XP : (Str → Option Value) → Heap → Prop} {YP : World → Heap → Prop} {d : DefRec} {K : Params → Fg} {CX : CXT} {sp : Fg → Sp} {x : Str}
    (hn : l.most = some n) (hn2 : n ≤ sizeLine) (hdf : d.params.defaults = []) (hr : Room k callerA)
    (hY : ∀ (w : World) (h : Heap), YP w h → (K w.params).In h)
    (F : ∀ (w : World) (mg : Str → Option Value) (fa : Addr) (h : Heap), (K w.params).In h → h.Ns mainGlobals mg → mg d.name = some (.ref fa) →
      ∃ fd : FuncData, (∀ (s : Shared) (u : Value), BindsTo s fd ⟨[u], []⟩ [(x, u)]) ∧
        ∀ base : Heap, (K w.params).In base → base.Ns mainGlobals mg → FnOk l.prog w (K w.params) mg base CX k fa fd [x] (sp (K w.params)))
    (hsp : ∀ (K : Fg) (H : Hp) (a : Addr) (ns : List Int), ns.length ≤ n → Only H → SqL K H a (ns.map V.int) → sp K [.ref a] H (fun v _ => v = .bl true) fun _ _ _ => False)
    (hCX : ∀ (H : Hp) (s : Shared) (e : Value) (s' : Shared), CX [] H s (fun _ _ _ => False) e s' → False) :
    PySem.W.WalkO q loose XP YP l.row.toRowW d [] (fun f vs => PySem.call f vs) :=
  walk_of (K := K) (CX := fun _ => CX) (sp := fun w => sp (K w.params)) hn hn2 hdf hr hY F (fun w H a ns h1 h2 h3 => hsp (K w.params) H a ns h1 h2 h3) fun _ H s e s' => hCX H s e s'
end L2
namespace L2
open PySem PySem.Spec PyProof.Rows
def defArgs (s : Stmt) : Arguments := match s with
  | .FunctionDef _ a _ _ _ _ _ _ _ _ => a
  | _ => { posonlyargs := [], args := [], vararg := none, kwonlyargs := [], kw_defaults := [], kwarg := none, defaults := [] }
def defBody (s : Stmt) : List Stmt := match s with
  | .FunctionDef _ _ b _ _ _ _ _ _ _ => b
  | _ => []
def defScope (s : Stmt) : Scope := match s with
  | .FunctionDef _ _ _ _ _ _ sc _ _ _ => sc
  | _ => { kind := .function, names := [], isGenerator := false, isCoroutine := false }
abbrev CX0 : CXT := fun _ _ _ _ _ _ => False
abbrev E0 : XK := fun _ _ _ => False
theorem pass0 {X : Cx} : Passes CX0 X E0 := fun _ _ _ _ _ _ _ h => h.elim
structure Fun (K : Fg) (x qual : Str) (st : Stmt) (f : Addr) (fd : FuncData) : Prop where
  ex : ∃ (oc : Value) (od : Option Addr) (kV doc pm : Value) (an : Option Addr) (cdv ct : Value) (osl : Array (Option Value)),
    fd = PySem.W.fnOf x qual (defArgs st) (defBody st) (defScope st) .none kV doc pm an cdv ct ∧ K.lookup f = some ⟨oc, od, .func fd, osl⟩ ∧ PySem.W.codeIn K cdv qual = true
  kp : PySem.W.keepIn K (.ref f) = true
section
variable {P : Program} {w : World} {K : Fg} {mg : Str → Option Value} {base : Heap}
theorem Fun.ok {x qual : Str} {st : Stmt} {f : Addr} {fd : FuncData} {N ps : List Str} {k : Nat} {sp : Sp} (F : Fun K x qual st f fd) (S : FnScope N ps (defScope st)) (len : ∀ vs H Q E, sp vs H Q E → vs.length = ps.length)
    (hbody : ∀ (cdv : Value) (A : Around) (outer : List Env) (s : Shared) (H : Hp) (vs : List V) (Q : VK) (E : XK), Room k (A.deeper (envOfC qual (defScope st) s.heap.objs.size f cdv)) → sp vs H Q E →
      ∃ t, PSs (cxOf CX0 P w K mg base N qual (defScope st) f cdv A outer s H E).nox (defBody st) t ∧ t { nx := fun _ H' => Q .non H', rt := Q } (start N vs) H) : FnOk P w K mg base CX0 (k + 1) f fd ps sp := by
  obtain ⟨oc, od, kV, doc, pm, an, cdv, ct, osl, rfl, lk, hcd⟩ := F.ex
  refine fn_of lk hcd S len fun A outer s H vs Q E hr hsp => ?_
  obtain ⟨t, h, q⟩ := hbody cdv A outer s H vs Q E hr hsp
  exact ⟨t, h.nox, q⟩
theorem Fun.binds {x qual : Str} {st : Stmt} {f : Addr} {fd : FuncData} {ps : List Str} (F : Fun K x qual st f fd)
    (h : ∀ (kV doc pm : Value) (an : Option Addr) (cdv ct : Value) (us : List Value), us.length = ps.length → bindArgs (PySem.W.fnOf x qual (defArgs st) (defBody st) (defScope st) .none kV doc pm an cdv ct) ⟨us, []⟩ = pure (ps.zip us)) : Binds K fd ps [] := by
  obtain ⟨oc, od, kV, doc, pm, an, cdv, ct, osl, rfl, lk, hcd⟩ := F.ex
  exact .all (h kV doc pm an cdv ct)
theorem fun_mk {x qual : Str} {st : Stmt} {f : Addr} {oc : Value} {od an : Option Addr} {osl : Array (Option Value)} {kV doc pm cdv ct : Value} (l : K.lookup f = some ⟨oc, od, .func (PySem.W.fnOf x qual (defArgs st) (defBody st) (defScope st) .none kV doc pm an cdv ct), osl⟩)
    (c : PySem.W.codeIn K cdv qual = true) (k : PySem.W.keepIn K (.ref f) = true) : Fun K x qual st f (PySem.W.fnOf x qual (defArgs st) (defBody st) (defScope st) .none kV doc pm an cdv ct) := ⟨⟨oc, od, kV, doc, pm, an, cdv, ct, osl, rfl, l, c⟩, k⟩
end
section
variable {X : Cx}
theorem pv (i : Nat) {x : Str} {pos : Pos} (hN : X.N[i]? = some x := by rfl) (hv : Vis X.env.scope x := by first | exact Or.inl rfl | exact Or.inr (Or.inl rfl) | exact Or.inr (Or.inr rfl)) (hd : (x == ("__debug__" : Str)) = false := by decide)
    (hcd : (x == ("__classdict__" : Str)) = false := by decide) : PE X (.Name x pos) (tVar i) := pe_var hN hv hd hcd
end
theorem iteF {A B : Prop} (h : B) : if false = true then A else B := by
  rw [if_neg Bool.false_ne_true]
  exact h
theorem iteT {A B : Prop} (h : A) : if true = true then A else B := by
  rw [if_pos rfl]
  exact h
def Same (H H' : Hp) : Prop := ∀ b o, H b = some o → H' b = some o
theorem Same.refl (H : Hp) : Same H H := fun _ _ h => h
theorem Same.trans {H H1 H2 : Hp} (a : Same H H1) (b : Same H1 H2) : Same H H2 := fun c o h => b c o (a c o h)
theorem Same.free {H H' : Hp} (e : Same H H') {l : Addr} (h : H' l = Option.none) : H l = Option.none := by
  cases q : H l with
  | none => rfl
  | some o =>
    rw [e l o q] at h
    cases h
theorem Same.seq {K : Fg} {H H' : Hp} {a : Addr} {xs : List V} (e : Same H H') (h : SqL K H a xs) : SqL K H' a xs := by
  rcases h with (h | ⟨o, h⟩) | h
  · exact .inl (.inl (e _ _ h))
  · exact .inl (.inr ⟨o, e _ _ h⟩)
  · exact .inr h
end L2
namespace DD
open PySem PySem.Spec PyProof.Rows L2
abbrev St := L2.St
inductive D where
  | non | bl (b : Bool) | int (i : Int) | str (s : List Nat) | tup (l : List D) | lst (l : List D) | ty (n : String) | ref (a : Addr)
def LsAt (K : Fg) (O : Addr → Prop) (H : Hp) (a : Addr) (xs : List V) : Prop :=
  (¬ O a ∧ Rd H a (.lst xs)) ∨ ∃ (o : Obj) (its : Array Value) (n : Nat), K.lookup a = some o ∧ o.cls = .type "list" ∧ o.dict = none ∧ o.data = .seq its n ∧ its.size ≤ sizeLine ∧ Vals xs its.toList
theorem LsAt.sq {K : Fg} {O : Addr → Prop} {H : Hp} {a : Addr} {xs : List V} (h : LsAt K O H a xs) : SqL K H a xs := h.imp (·.2) id
mutual
def Is (K : Fg) (O : Addr → Prop) (H : Hp) : D → V → Prop
  | .non, v => v = .non
  | .bl b, v => v = .bl b
  | .int i, v => v = .int i
  | .str s, v => v = .str ⟨s.toArray⟩
  | .ty n, v => v = .ty n
  | .ref a, v => v = .ref a
  | .tup l, v => ∃ a xs, v = .ref a ∧ SqT K H a xs ∧ IsL K O H l xs
  | .lst l, v => ∃ a xs, v = .ref a ∧ LsAt K O H a xs ∧ IsL K O H l xs
def IsL (K : Fg) (O : Addr → Prop) (H : Hp) : List D → List V → Prop
  | [], vs => vs = []
  | d :: l, vs => ∃ v r, vs = v :: r ∧ Is K O H d v ∧ IsL K O H l r
end
def OLst (O : Addr → Prop) (H : Hp) : Prop := ∀ a, O a → ∃ xs, H a = some (.lst xs)
def Keep (O : Addr → Prop) (H H' : Hp) : Prop := ∀ b o, H b = some o → ¬ O b → H' b = some o
theorem Rd.some {H : Hp} {a : Addr} {u : HO} (h : Rd H a u) : ∃ o, H a = some o := by
  rcases h with h | ⟨o, h⟩
  · exact ⟨_, h⟩
  · exact ⟨_, h⟩
theorem SqT.keep {K : Fg} {O : Addr → Prop} {H H' : Hp} {a : Addr} {xs : List V} (k : Keep O H H') (o : OLst O H) (h : SqT K H a xs) : SqT K H' a xs := by
  rcases h with (h | ⟨ob, h⟩) | h
  · exact .inl (.inl (k _ _ h fun z => by obtain ⟨ys, q⟩ := o a z; rw [h] at q; cases q))
  · exact .inl (.inr ⟨ob, k _ _ h fun z => by obtain ⟨ys, q⟩ := o a z; rw [h] at q; cases q⟩)
  · exact .inr h
theorem Rd.keep {O : Addr → Prop} {H H' : Hp} {a : Addr} {u : HO} (k : Keep O H H') (n : ¬ O a) (h : Rd H a u) : Rd H' a u := by
  rcases h with h | ⟨ob, h⟩
  · exact .inl (k _ _ h n)
  · exact .inr ⟨ob, k _ _ h n⟩
mutual
theorem Is.mono {K : Fg} {O O' : Addr → Prop} {H H' : Hp} (k : Keep O H H') (ol : OLst O H) (oo : ∀ a, O' a → H a ≠ none → O a) : ∀ (d : D) (v : V), Is K O H d v → Is K O' H' d v
  | .non, v, h => by unfold Is at h ⊢; exact h
  | .bl b, v, h => by unfold Is at h ⊢; exact h
  | .int i, v, h => by unfold Is at h ⊢; exact h
  | .str s, v, h => by unfold Is at h ⊢; exact h
  | .ty n, v, h => by unfold Is at h ⊢; exact h
  | .ref a, v, h => by unfold Is at h ⊢; exact h
  | .tup l, v, h => by
    unfold Is at h ⊢
    obtain ⟨a, xs, e, q, r⟩ := h
    exact ⟨a, xs, e, SqT.keep k ol q, IsL.mono k ol oo l xs r⟩
  | .lst l, v, h => by
    unfold Is at h ⊢
    obtain ⟨a, xs, e, nq, r⟩ := h
    refine ⟨a, xs, e, ?_, IsL.mono k ol oo l xs r⟩
    rcases nq with ⟨n, q⟩ | q
    · exact .inl ⟨fun z => n (oo a z (by obtain ⟨o, q⟩ := Rd.some q; rw [q]; simp)), Rd.keep k n q⟩
    · exact .inr q
theorem IsL.mono {K : Fg} {O O' : Addr → Prop} {H H' : Hp} (k : Keep O H H') (ol : OLst O H) (oo : ∀ a, O' a → H a ≠ none → O a) : ∀ (l : List D) (vs : List V), IsL K O H l vs → IsL K O' H' l vs
  | [], vs, h => by unfold IsL at h ⊢; exact h
  | d :: l, vs, h => by
    unfold IsL at h ⊢
    obtain ⟨v, r, e, h1, h2⟩ := h
    exact ⟨v, r, e, Is.mono k ol oo d v h1, IsL.mono k ol oo l r h2⟩
end
theorem Same.kp {H H' : Hp} (s : Same H H') (O : Addr → Prop) : Keep O H H' := fun b o e _ => s b o e
theorem Is.same {K : Fg} {O : Addr → Prop} {H H' : Hp} {d : D} {v : V} (s : Same H H') (ol : OLst O H) (h : Is K O H d v) : Is K O H' d v := Is.mono (Same.kp s O) ol (fun _ z _ => z) d v h
theorem IsL.same {K : Fg} {O : Addr → Prop} {H H' : Hp} {l : List D} {vs : List V} (s : Same H H') (ol : OLst O H) (h : IsL K O H l vs) : IsL K O H' l vs := IsL.mono (Same.kp s O) ol (fun _ z _ => z) l vs h
section
variable {K : Fg} {O : Addr → Prop} {H : Hp}
theorem IsL.length : ∀ {l : List D} {vs : List V}, IsL K O H l vs → l.length = vs.length
  | [], vs, h => by unfold IsL at h; subst h; rfl
  | d :: l, vs, h => by unfold IsL at h; obtain ⟨v, r, rfl, _, h2⟩ := h; simp [IsL.length h2]
theorem IsL.get : ∀ {l : List D} {vs : List V} {i : Nat} {d : D}, IsL K O H l vs → l[i]? = some d → ∃ v, vs[i]? = some v ∧ Is K O H d v
  | [], _, _, _, _, e => by simp at e
  | d :: l, vs, 0, d', h, e => by
    unfold IsL at h; obtain ⟨v, r, rfl, h1, h2⟩ := h
    simp at e; subst e; exact ⟨v, rfl, h1⟩
  | d :: l, vs, i + 1, d', h, e => by
    unfold IsL at h; obtain ⟨v, r, rfl, h1, h2⟩ := h
    obtain ⟨u, q1, q2⟩ := IsL.get (i := i) h2 (by simpa using e)
    exact ⟨u, by simpa using q1, q2⟩
theorem IsL.nil : IsL K O H [] [] := by unfold IsL; rfl
theorem IsL.cons {d : D} {v : V} {l : List D} {vs : List V} (h : Is K O H d v) (t : IsL K O H l vs) : IsL K O H (d :: l) (v :: vs) := by unfold IsL; exact ⟨v, vs, rfl, h, t⟩
theorem IsL.append : ∀ {l m : List D} {vs us : List V}, IsL K O H l vs → IsL K O H m us → IsL K O H (l ++ m) (vs ++ us)
  | [], _, _, _, h, t => by unfold IsL at h; subst h; exact t
  | d :: l, m, vs, us, h, t => by unfold IsL at h; obtain ⟨v, r, rfl, h1, h2⟩ := h; exact .cons h1 (IsL.append h2 t)
theorem IsL.take : ∀ {l : List D} {vs : List V} (n : Nat), IsL K O H l vs → IsL K O H (l.take n) (vs.take n)
  | _, _, 0, _ => by simpa using IsL.nil
  | [], _, _ + 1, h => by unfold IsL at h; subst h; simpa using IsL.nil
  | d :: l, vs, n + 1, h => by unfold IsL at h; obtain ⟨v, r, rfl, h1, h2⟩ := h; exact .cons h1 (IsL.take n h2)
theorem IsL.drop : ∀ {l : List D} {vs : List V} (n : Nat), IsL K O H l vs → IsL K O H (l.drop n) (vs.drop n)
  | _, _, 0, h => h
  | [], _, _ + 1, h => by unfold IsL at h; subst h; simpa using IsL.nil
  | d :: l, vs, n + 1, h => by unfold IsL at h; obtain ⟨v, r, rfl, h1, h2⟩ := h; exact IsL.drop n h2
theorem IsL.reverse : ∀ {l : List D} {vs : List V}, IsL K O H l vs → IsL K O H l.reverse vs.reverse
  | [], _, h => by unfold IsL at h; subst h; exact IsL.nil
  | d :: l, vs, h => by
    unfold IsL at h; obtain ⟨v, r, rfl, h1, h2⟩ := h
    rw [List.reverse_cons, List.reverse_cons]; exact (IsL.reverse h2).append (.cons h1 .nil)
theorem IsL.inv1 {d : D} {vs : List V} (h : IsL K O H [d] vs) : ∃ v, vs = [v] ∧ Is K O H d v := by
  unfold IsL at h
  obtain ⟨v, r, rfl, h1, h2⟩ := h
  unfold IsL at h2; subst h2
  exact ⟨v, rfl, h1⟩
theorem IsL.inv2 {d e : D} {vs : List V} (h : IsL K O H [d, e] vs) : ∃ v u, vs = [v, u] ∧ Is K O H d v ∧ Is K O H e u := by
  unfold IsL at h
  obtain ⟨v, r, rfl, h1, h2⟩ := h
  obtain ⟨u, rfl, h3⟩ := h2.inv1
  exact ⟨v, u, rfl, h1, h3⟩
theorem Is.int_iff {i : Int} {v : V} : Is K O H (.int i) v ↔ v = .int i := by unfold Is; exact Iff.rfl
theorem Is.bl_iff {b : Bool} {v : V} : Is K O H (.bl b) v ↔ v = .bl b := by unfold Is; exact Iff.rfl
theorem Is.str_iff {s : List Nat} {v : V} : Is K O H (.str s) v ↔ v = .str ⟨s.toArray⟩ := by unfold Is; exact Iff.rfl
theorem Is.non_iff {v : V} : Is K O H .non v ↔ v = .non := by unfold Is; exact Iff.rfl
theorem Is.tup_iff {l : List D} {v : V} : Is K O H (.tup l) v ↔ ∃ a xs, v = .ref a ∧ SqT K H a xs ∧ IsL K O H l xs := by unfold Is; exact Iff.rfl
theorem Is.lst_iff {l : List D} {v : V} : Is K O H (.lst l) v ↔ ∃ a xs, v = .ref a ∧ LsAt K O H a xs ∧ IsL K O H l xs := by unfold Is; exact Iff.rfl
end
inductive Sl where
  | un | v (d : D) | o (l : List D) | p (l : List D) | z (l : List D)
abbrev En := List Sl
def Sl.own : Sl → Option (List D)
  | .o l => some l
  | .p l => some l
  | .z l => some l
  | _ => none
def Sl.mt : Sl → Option (List D)
  | .o l => some l
  | .p l => some l
  | _ => none
def AtS (q : Sl → Option (List D)) (r : En) (σ : St) (a : Addr) : Prop := ∃ (i : Nat) (l : List D), (r[i]?).bind q = some l ∧ σ[i]? = some (some (.ref a))
abbrev OwnAt := AtS Sl.own
abbrev MutAt := AtS Sl.mt
theorem mt_own {x : Sl} {l : List D} (h : x.mt = some l) : x.own = some l := by
  cases x <;> first | (cases h; rfl) | cases h
theorem MutAt.own {r : En} {σ : St} {a : Addr} (h : MutAt r σ a) : OwnAt r σ a := by
  obtain ⟨i, l, e, q⟩ := h
  obtain ⟨x, e1, e2⟩ := Option.bind_eq_some_iff.mp e
  exact ⟨i, l, by rw [e1]; exact mt_own e2, q⟩
def Ow (O0 : Addr → Prop) (r : En) (σ : St) : Addr → Prop := fun a => O0 a ∨ OwnAt r σ a
structure R (K : Fg) (O0 : Addr → Prop) (H : Hp) (r : En) (σ : St) : Prop where
  len : r.length = σ.length
  val : ∀ (i : Nat) (d : D), r[i]? = some (.v d) → ∃ v, σ[i]? = some (some v) ∧ Is K (Ow O0 r σ) H d v
  own : ∀ (i : Nat) (l : List D), (r[i]?).bind Sl.own = some l → ∃ a xs, σ[i]? = some (some (.ref a)) ∧ H a = some (.lst xs) ∧ IsL K (Ow O0 r σ) H l xs
  apart : ∀ (i j : Nat) (a : Addr) (l m : List D), (r[i]?).bind Sl.own = some l → (r[j]?).bind Sl.own = some m → σ[i]? = some (some (.ref a)) → σ[j]? = some (some (.ref a)) → i = j
  o0 : OLst O0 H
  loc : ∀ (i : Nat) (l : List D) (a : Addr), (r[i]? = some (.o l) ∨ r[i]? = some (.z l)) → σ[i]? = some (some (.ref a)) → ¬ O0 a
  par : ∀ (i : Nat) (l : List D) (a : Addr), r[i]? = some (.p l) → σ[i]? = some (some (.ref a)) → O0 a
theorem R.ol {K : Fg} {O0 : Addr → Prop} {H : Hp} {r : En} {σ : St} (h : R K O0 H r σ) : OLst (Ow O0 r σ) H := fun a z => by
  rcases z with z | ⟨i, l, e, q⟩
  · exact h.o0 a z
  · obtain ⟨b, xs, e1, e2, _⟩ := h.own i l e
    rw [q] at e1; cases e1
    exact ⟨xs, e2⟩
theorem R.nofresh {K : Fg} {O0 : Addr → Prop} {H : Hp} {r : En} {σ : St} (h : R K O0 H r σ) {a : Addr} (n : H a = none) : ¬ Ow O0 r σ a := fun z => by
  obtain ⟨xs, e⟩ := h.ol a z
  rw [n] at e; cases e
theorem R.same {K : Fg} {O0 : Addr → Prop} {H H' : Hp} {r : En} {σ : St} (h : R K O0 H r σ) (s : Same H H') : R K O0 H' r σ where
  len := h.len
  val := fun i d e => by obtain ⟨v, e1, q⟩ := h.val i d e; exact ⟨v, e1, q.same s h.ol⟩
  own := fun i l e => by obtain ⟨a, xs, e1, e2, q⟩ := h.own i l e; exact ⟨a, xs, e1, s _ _ e2, q.same s h.ol⟩
  apart := h.apart
  o0 := fun a z => by obtain ⟨xs, e⟩ := h.o0 a z; exact ⟨xs, s _ _ e⟩
  loc := h.loc
  par := h.par
structure Kp (H : Hp) (r : En) (σ : St) (H' : Hp) (r' : En) (σ' : St) : Prop where
  keep : Keep (MutAt r σ) H H'
  live : ∀ b, H' b = none → H b = none
  lst : ∀ b xs, H b = some (.lst xs) → ∃ ys, H' b = some (.lst ys)
  new : ∀ b, OwnAt r' σ' b → OwnAt r σ b ∨ H b = none
  mnew : ∀ b, MutAt r' σ' b → MutAt r σ b ∨ H b = none
  par : ∀ (i : Nat) (l : List D), r[i]? = some (.p l) → (∃ l', r'[i]? = some (.p l')) ∧ σ'[i]? = σ[i]?
  fz : ∀ (i : Nat) (l : List D), r[i]? = some (.z l) → r'[i]? = some (.z l) ∧ σ'[i]? = σ[i]?
theorem Kp.of_same {H H' : Hp} (r : En) (σ : St) (s : Same H H') : Kp H r σ H' r σ :=
  ⟨fun b o e _ => s b o e, fun b e => s.free e, fun b xs e => ⟨xs, s _ _ e⟩, fun b z => .inl z, fun b z => .inl z, fun i l e => ⟨⟨l, e⟩, rfl⟩, fun i l e => ⟨e, rfl⟩⟩
theorem Kp.refl (H : Hp) (r : En) (σ : St) : Kp H r σ H r σ := .of_same r σ (Same.refl H)
theorem Kp.trans {H H1 H2 : Hp} {r r1 r2 : En} {σ σ1 σ2 : St} (a : Kp H r σ H1 r1 σ1) (b : Kp H1 r1 σ1 H2 r2 σ2) : Kp H r σ H2 r2 σ2 where
  keep := fun c o e n => b.keep c o (a.keep c o e n) fun z => (a.mnew c z).elim n fun q => by rw [e] at q; cases q
  live := fun c e => a.live c (b.live c e)
  lst := fun c xs e => by obtain ⟨ys, q⟩ := a.lst c xs e; exact b.lst c ys q
  new := fun c z => (b.new c z).elim (a.new c) fun q => .inr (a.live c q)
  mnew := fun c z => (b.mnew c z).elim (a.mnew c) fun q => .inr (a.live c q)
  par := fun i l e => by
    obtain ⟨⟨l1, e1⟩, q1⟩ := a.par i l e
    obtain ⟨⟨l2, e2⟩, q2⟩ := b.par i l1 e1
    exact ⟨⟨l2, e2⟩, q2.trans q1⟩
  fz := fun i l e => by
    obtain ⟨e1, q1⟩ := a.fz i l e
    obtain ⟨e2, q2⟩ := b.fz i l e1
    exact ⟨e2, q2.trans q1⟩
theorem PE.conseq {X : Cx} {e : Expr} {t t' : TE} (h : PE X e t) (i : ∀ σ H Q, t' σ H Q → t σ H Q) : PE X e t' := fun pins s σ H Q I q => h pins s σ H Q I (i σ H Q q)
theorem PT.conseq {X : Cx} {e : Expr} {t t' : TT} (h : PT X e t) (i : ∀ σ H Q, t' σ H Q → t σ H Q) : PT X e t' := fun pins s σ H Q I q => h pins s σ H Q I (i σ H Q q)
theorem PA.conseq {X : Cx} {e : List Expr} {t t' : TA} (h : PA X e t) (i : ∀ σ H Q, t' σ H Q → t σ H Q) : PA X e t' := fun pos pins s σ H Q I q => h pos pins s σ H Q I (i σ H Q q)
theorem PS.conseq {X : Cx} {st : Stmt} {t t' : TS} (h : PS X st t) (i : ∀ D σ H, t' D σ H → t D σ H) : PS X st t' := fun pins s σ H D I q => h pins s σ H D I (i D σ H q)
theorem PSs.conseq {X : Cx} {st : List Stmt} {t t' : TS} (h : PSs X st t) (i : ∀ D σ H, t' D σ H → t D σ H) : PSs X st t' := fun pins s σ H D I q => h pins s σ H D I (i D σ H q)
abbrev ME := En → Option D
abbrev ML := En → Option (List D)
abbrev MB := En → Option Bool
def lE (K : Fg) (f : ME) : TE := fun σ H Q => ∃ O0 r d, R K O0 H r σ ∧ f r = some d ∧ ∀ v H', Same H H' → Is K (Ow O0 r σ) H' d v → Q v H'
def lT (K : Fg) (f : MB) : TT := fun σ H Q => ∃ O0 r b, R K O0 H r σ ∧ f r = some b ∧ ∀ H', Same H H' → Q b H'
def lA (K : Fg) (f : ML) : TA := fun σ H Q => ∃ O0 r l, R K O0 H r σ ∧ f r = some l ∧ ∀ vs H', Same H H' → IsL K (Ow O0 r σ) H' l vs → Q vs H'
def lF (K : Fg) (f : ML) : TE := fun σ H Q => ∃ O0 r l, R K O0 H r σ ∧ f r = some l ∧ ∀ a xs H', Same H H' → H a = none → H' a = some (.lst xs) → IsL K (fun b => Ow O0 r σ b ∨ b = a) H' l xs → Q (.ref a) H'
def lB (K : Fg) (f : ML) : TE := fun σ H Q => ∃ O0 r l, R K O0 H r σ ∧ f r = some l ∧ ∀ a xs H', Same H H' → SqL K H' a xs → IsL K (Ow O0 r σ) H' l xs → Q (.ref a) H'
def lX (K : Fg) (f : En → Option (D × En)) : TE := fun σ H Q => ∃ O0 r d r', R K O0 H r σ ∧ f r = some (d, r') ∧ ∀ v H', R K O0 H' r' σ → Kp H r σ H' r' σ → Is K (Ow O0 r' σ) H' d v → Q v H'
def DE (X : Cx) (e : Expr) (f : ME) : Prop := PE X e (lE X.K f)
def DT (X : Cx) (e : Expr) (f : MB) : Prop := PT X e (lT X.K f)
def DA (X : Cx) (es : List Expr) (f : ML) : Prop := PA X es (lA X.K f)
def DF (X : Cx) (e : Expr) (f : ML) : Prop := PE X e (lF X.K f)
def DB (X : Cx) (e : Expr) (f : ML) : Prop := PE X e (lB X.K f)
def DX (X : Cx) (e : Expr) (f : En → Option (D × En)) : Prop := PE X e (lX X.K f)
inductive Fl where
  | nx (r : En) | bk (r : En) | ct (r : En) | rt (d : D) (r : En) | rf (l : List D) (r : En)
abbrev MS := En → Option Fl
def FrA (H : Hp) (r : En) (σ : St) (a : Addr) : Prop := H a = none ∨ ∃ (i : Nat) (l : List D), r[i]? = some (.o l) ∧ σ[i]? = some (some (.ref a))
def PostS (K : Fg) (O0 : Addr → Prop) (H : Hp) (r : En) (σ : St) (Dn : Ends) : Fl → Prop
  | .nx r' => ∀ σ' H', R K O0 H' r' σ' → Kp H r σ H' r' σ' → Dn.nx σ' H'
  | .bk r' => ∀ σ' H', R K O0 H' r' σ' → Kp H r σ H' r' σ' → Dn.bk σ' H'
  | .ct r' => ∀ σ' H', R K O0 H' r' σ' → Kp H r σ H' r' σ' → Dn.ct σ' H'
  | .rt d r' => ∀ v σ' H', R K O0 H' r' σ' → Kp H r σ H' r' σ' → Is K O0 H' d v → Dn.rt v H'
  | .rf l r' => ∀ a xs σ' H', R K O0 H' r' σ' → Kp H r σ H' r' σ' → FrA H r σ a → ¬ O0 a → H' a = some (.lst xs) → IsL K (fun b => O0 b ∨ b = a) H' l xs → Dn.rt (.ref a) H'
def lS (K : Fg) (g : MS) : TS := fun Dn σ H => ∃ O0 r fl, R K O0 H r σ ∧ g r = some fl ∧ PostS K O0 H r σ Dn fl
def DS (X : Cx) (st : Stmt) (g : MS) : Prop := PS X st (lS X.K g)
def DSs (X : Cx) (st : List Stmt) (g : MS) : Prop := PSs X st (lS X.K g)
theorem PostS.before {K : Fg} {O0 : Addr → Prop} {H H1 : Hp} {r r1 : En} {σ σ1 : St} {Dn : Ends} {fl : Fl} (R1 : R K O0 H1 r1 σ1) (k : Kp H r σ H1 r1 σ1) (h : PostS K O0 H r σ Dn fl) : PostS K O0 H1 r1 σ1 Dn fl := by
  have fra : ∀ a, FrA H1 r1 σ1 a → FrA H r σ a := fun a z => by
    rcases z with z | ⟨i, l, e, q⟩
    · exact .inl (k.live a z)
    · rcases k.new a ⟨i, l, by rw [e]; rfl, q⟩ with ⟨j, m, e2, q2⟩ | z
      · cases ej : r[j]? with
        | none => rw [ej] at e2; cases e2
        | some x =>
          rw [ej] at e2
          cases x with
          | un => cases e2
          | v d => cases e2
          | o l' => exact .inr ⟨j, l', ej, q2⟩
          | p l' =>
            obtain ⟨⟨l2, e3⟩, q3⟩ := k.par j l' ej
            have := R1.apart i j a l l2 (by rw [e]; rfl) (by rw [e3]; rfl) q (q3.trans q2)
            subst this
            rw [e] at e3; cases e3
          | z l' =>
            obtain ⟨e3, q3⟩ := k.fz j l' ej
            have := R1.apart i j a l l' (by rw [e]; rfl) (by rw [e3]; rfl) q (q3.trans q2)
            subst this
            rw [e] at e3; cases e3
      · exact .inl z
  cases fl with
  | nx r' => exact fun σ' H' h1 h2 => h σ' H' h1 (k.trans h2)
  | bk r' => exact fun σ' H' h1 h2 => h σ' H' h1 (k.trans h2)
  | ct r' => exact fun σ' H' h1 h2 => h σ' H' h1 (k.trans h2)
  | rt d r' => exact fun v σ' H' h1 h2 h3 => h v σ' H' h1 (k.trans h2) h3
  | rf l r' => exact fun a xs σ' H' h1 h2 h3 h4 h5 h6 => h a xs σ' H' h1 (k.trans h2) (fra a h3) h4 h5 h6
def mC (d : D) : ME := fun _ => some d
def mVar (i : Nat) : ME := fun r => match r[i]? with
  | some (.v d) => some d
  | _ => none
def mOwn (i : Nat) : ML := fun r => (r[i]?).bind Sl.own
def mBin (m : D → D → Option D) (f g : ME) : ME := fun r => (f r).bind fun x => (g r).bind fun y => m x y
def mUn (m : D → Option D) (f : ME) : ME := fun r => (f r).bind m
def mNil : ML := fun _ => some []
def mCons (f : ME) (g : ML) : ML := fun r => (f r).bind fun x => (g r).bind fun l => some (x :: l)
def mTup (f : ML) : ME := fun r => (f r).bind fun l => if l.length ≤ sizeLine then some (.tup l) else none
def mLstF (f : ML) : ML := fun r => (f r).bind fun l => if l.length ≤ sizeLine then some l else none
def mOfF (f : ML) : ME := fun r => (f r).map .lst
def mAnd (f g : ME) : ME := fun r => (f r).bind fun d => match d with
  | .bl true => g r
  | .bl false => some (.bl false)
  | _ => none
def notD : D → Option D
  | .bl b => some (.bl !b)
  | _ => none
def mAndT (f g : MB) : MB := fun r => (f r).bind fun b => if b = true then g r else some false
def mOrT (f g : MB) : MB := fun r => (f r).bind fun b => if b = true then some true else g r
def mNotT (f : MB) : MB := fun r => (f r).map (!·)
def blD : D → Option Bool
  | .bl b => some b
  | _ => none
def mBl (f : ME) : MB := fun r => (f r).bind blD
def truD : D → Option Bool
  | .non => some false
  | .bl b => some b
  | .int i => some (i != 0)
  | .str s => if s.length ≤ sizeLine then some (!s.isEmpty) else none
  | .tup l => some (!l.isEmpty)
  | .lst l => some (!l.isEmpty)
  | _ => none
def mTruB (fl : ML) : MB := fun r => (fl r).map fun l => !l.isEmpty
def mTru (f : ME) : MB := fun r => (f r).bind truD
section
variable {X : Cx} {pos : Pos} {a b c : Expr} {f g : ME}
theorem bind_some {α β : Type} {o : Option α} {h : α → Option β} {y : β} (e : o.bind h = some y) : ∃ x, o = some x ∧ h x = some y := by
  cases o with
  | none => cases e
  | some x => exact ⟨x, rfl, e⟩
theorem de_of {t : TE} (h : PE X a t) (i : ∀ O0 σ H r d Q, R X.K O0 H r σ → f r = some d → (∀ v H', Same H H' → Is X.K (Ow O0 r σ) H' d v → Q v H') → t σ H Q) : DE X a f :=
  PE.conseq h fun σ H Q ⟨O0, r, d, hR, e, q⟩ => i O0 σ H r d Q hR e q
theorem de_var (i : Nat) {x : Str} (h : PE X (.Name x pos) (tVar i)) : DE X (.Name x pos) (mVar i) :=
  de_of h fun O0 σ H r d Q hR e q => by
    unfold mVar at e
    have e' : r[i]? = some (.v d) := by
      split at e
      · rename_i d' h; cases e; exact h
      · cases e
    obtain ⟨v, e1, q1⟩ := hR.val i d e'
    exact ⟨v, e1, q v H (Same.refl H) q1⟩
theorem db_own (i : Nat) {x : Str} (h : PE X (.Name x pos) (tVar i)) : DB X (.Name x pos) (mOwn i) :=
  PE.conseq h fun σ H Q ⟨O0, r, l, hR, e, q⟩ => by
    obtain ⟨a, xs, e1, e2, q1⟩ := hR.own i l e
    exact ⟨.ref a, e1, q a xs H (Same.refl H) (SqL.of e2) q1⟩
theorem de_con {v : V} {d : D} (h : PE X a (tC v)) (hd : ∀ O H, Is X.K O H d v) : DE X a (mC d) :=
  de_of h fun O0 σ H r d' Q hR e q => by
    unfold mC at e
    cases e
    exact q v H (Same.refl H) (hd _ _)
theorem de_int {i j} : DE X (.Constant (.int i) j pos) (mC (.int i)) := de_con pe_int fun O H => by unfold Is; rfl
theorem de_bl {i j} : DE X (.Constant (.bool i) j pos) (mC (.bl i)) := de_con pe_bl fun O H => by unfold Is; rfl
theorem de_non {j} : DE X (.Constant .none j pos) (mC .non) := de_con pe_non fun O H => by unfold Is; rfl
theorem de_str {x : Str} {s : List Nat} {j} (e : x.cps.toList = s := by rfl) : DE X (.Constant (.str x) j pos) (mC (.str s)) := de_con pe_str fun O H => by
  unfold Is; subst e; simp
def OpD (K : Fg) (r2 : R2) (m : D → D → Option D) : Prop := ∀ (O : Addr → Prop) (H : Hp) (dx dy d : D) (vx vy : V) (Q : VK), OLst O H → Is K O H dx vx → Is K O H dy vy → m dx dy = some d → (∀ v H', Same H H' → Is K O H' d v → Q v H') → r2 vx vy H Q
theorem two {ta tb : TE} {r2 : R2} {m : D → D → Option D} (hd : OpD X.K r2 m) {σ : St} {H : Hp} {Q : VK} (h : lE X.K (mBin m f g) σ H Q) : tOp r2 (lE X.K f) (lE X.K g) σ H Q := by
  obtain ⟨O0, r, d, hR, e, q⟩ := h
  obtain ⟨x, e1, e⟩ := bind_some e
  obtain ⟨y, e2, e⟩ := bind_some e
  refine ⟨O0, r, x, hR, e1, fun v1 H1 s1 i1 => ⟨O0, r, y, hR.same s1, e2, fun v2 H2 s2 i2 => ?_⟩⟩
  exact hd (Ow O0 r σ) H2 x y d v1 v2 Q (hR.same (s1.trans s2)).ol (i1.same s2 (hR.same s1).ol) i2 e fun v H' s' i' => q v H' ((s1.trans s2).trans s') i'
theorem de_bin {op : Operator} {r2 : R2} {m : D → D → Option D} (ho : OpR X (binaryOp op) r2) (hd : OpD X.K r2 m) (ha : DE X a f) (hb : DE X b g) : DE X (.BinOp a op b pos) (mBin m f g) :=
  PE.conseq (pe_op ho ha hb) fun σ H Q h => two (ta := lE X.K f) (tb := lE X.K g) hd h
theorem de_cmp {op : CmpOp} {r2 : R2} {m : D → D → Option D} (ho : OpR X (compareOp op) r2) (hd : OpD X.K r2 m) (ha : DE X a f) (hb : DE X b g) (hm : behindInMarks op b = false) : DE X (.Compare a [op] [b] pos) (mBin m f g) :=
  PE.conseq (pe_cmpR ho ha hb hm) fun σ H Q h => two (ta := lE X.K f) (tb := lE X.K g) hd h
theorem dt_cmp {op : CmpOp} {r2 : R2} {m : D → D → Option D} (ho : OpR X (compareOp op) r2) (hd : OpD X.K r2 m) (ha : DE X a f) (hb : DE X b g) (hm : behindInMarks op b = false) : DT X (.Compare a [op] [b] pos) (mBl (mBin m f g)) := by
  refine PT.conseq (pt_cmpR ho ha hb hm) fun σ H Q h => ?_
  obtain ⟨O0, r, k, hR, e, q⟩ := h
  obtain ⟨d, e1, e⟩ := bind_some e
  refine two (ta := lE X.K f) (tb := lE X.K g) (m := m) hd ⟨O0, r, d, hR, e1, fun v H' s' i' => ?_⟩
  cases d <;> first | cases e | skip
  rw [Is.bl_iff] at i'
  exact ⟨_, i', q H' s'⟩
theorem de_un {op : UnaryOp} {r1 : V → Hp → VK → Prop} {m : D → Option D} (ho : UnR X (unaryOp op) r1)
    (hd : ∀ (O : Addr → Prop) (H : Hp) (dx d : D) (vx : V) (Q : VK), Is X.K O H dx vx → m dx = some d → (∀ v, Is X.K O H d v → Q v H) → r1 vx H Q) (ha : DE X a f) : DE X (.UnaryOp op a pos) (mUn m f) := by
  refine PE.conseq (pe_un ho ha) fun σ H Q h => ?_
  obtain ⟨O0, r, d, hR, e, q⟩ := h
  obtain ⟨x, e1, e⟩ := bind_some e
  exact ⟨O0, r, x, hR, e1, fun v1 H1 s1 i1 => hd _ H1 x d v1 Q i1 e fun v i => q v H1 s1 i⟩
theorem de_one {op} (h : DE X a f) : DE X (.BoolOp op [a] pos) f := pe_one h
theorem de_and {rest : List Expr} (ha : DE X a f) (hb : DE X (.BoolOp .And (b :: rest) pos) g) : DE X (.BoolOp .And (a :: b :: rest) pos) (mAnd f g) := by
  refine PE.conseq (pe_and ha hb) fun σ H Q h => ?_
  obtain ⟨O0, r, d, hR, e, q⟩ := h
  obtain ⟨x, e1, e⟩ := bind_some e
  refine ⟨O0, r, x, hR, e1, fun v1 H1 s1 i1 => ?_⟩
  cases x with
  | bl k =>
    rw [Is.bl_iff] at i1
    refine ⟨k, i1, ?_⟩
    cases k with
    | true =>
      rw [if_pos rfl]
      exact ⟨O0, r, d, hR.same s1, e, fun v H' s' i' => q v H' (s1.trans s') i'⟩
    | false =>
      rw [if_neg Bool.false_ne_true]
      cases e
      exact q _ H1 s1 (by rw [Is.bl_iff])
  | _ => cases e
theorem de_not (ha : DE X a f) : DE X (.UnaryOp .Not a pos) (mUn notD f) := by
  refine PE.conseq (pe_not ha) fun σ H Q h => ?_
  obtain ⟨O0, r, d, hR, e, q⟩ := h
  obtain ⟨x, e1, e⟩ := bind_some e
  refine ⟨O0, r, x, hR, e1, fun v1 H1 s1 i1 => ?_⟩
  cases x with
  | bl k =>
    rw [Is.bl_iff] at i1
    cases e
    exact ⟨k, i1, q _ H1 s1 (by rw [Is.bl_iff])⟩
  | _ => cases e
section
variable {tf tg : MB}
theorem dw_and1 (ha : DT X a tf) : PW X (.BoolOp .And [a] pos) (lT X.K tf) := pw_and1 ha
theorem dw_or1 (ha : DT X a tf) : PW X (.BoolOp .Or [a] pos) (lT X.K tf) := pw_or1 ha
theorem PW.conseq {e : Expr} {t t' : TT} (h : PW X e t) (i : ∀ σ H Q, t' σ H Q → t σ H Q) : PW X e t' := fun wh pins s σ H Q I q => h wh pins s σ H Q I (i σ H Q q)
theorem dw_and {rest : List Expr} (ha : DT X a tf) (hb : PW X (.BoolOp .And (b :: rest) pos) (lT X.K tg)) : PW X (.BoolOp .And (a :: b :: rest) pos) (lT X.K (mAndT tf tg)) := by
  refine PW.conseq (pw_and ha hb) fun σ H Q h => ?_
  obtain ⟨O0, r, d, hR, e, q⟩ := h
  obtain ⟨x, e1, e⟩ := bind_some e
  refine ⟨O0, r, x, hR, e1, fun H1 s1 => ?_⟩
  cases x with
  | true =>
    rw [if_pos rfl]
    exact ⟨O0, r, d, hR.same s1, e, fun H' s' => q H' (s1.trans s')⟩
  | false =>
    rw [if_neg Bool.false_ne_true]
    cases e
    exact q H1 s1
theorem dw_or {rest : List Expr} (ha : DT X a tf) (hb : PW X (.BoolOp .Or (b :: rest) pos) (lT X.K tg)) : PW X (.BoolOp .Or (a :: b :: rest) pos) (lT X.K (mOrT tf tg)) := by
  refine PW.conseq (pw_or ha hb) fun σ H Q h => ?_
  obtain ⟨O0, r, d, hR, e, q⟩ := h
  obtain ⟨x, e1, e⟩ := bind_some e
  refine ⟨O0, r, x, hR, e1, fun H1 s1 => ?_⟩
  cases x with
  | true =>
    rw [if_pos rfl]
    cases e
    exact q H1 s1
  | false =>
    rw [if_neg Bool.false_ne_true]
    exact ⟨O0, r, d, hR.same s1, e, fun H' s' => q H' (s1.trans s')⟩
theorem dt_w (h : PW X a (lT X.K tf)) : DT X a tf := h.pt
theorem dt_not (ha : DT X a tf) : DT X (.UnaryOp .Not a pos) (mNotT tf) := by
  refine PT.conseq (pt_not ha) fun σ H Q h => ?_
  obtain ⟨O0, r, d, hR, e, q⟩ := h
  unfold mNotT at e
  cases e1 : tf r with
  | none => rw [e1] at e; cases e
  | some k =>
    rw [e1] at e; cases e
    exact ⟨O0, r, k, hR, e1, fun H1 s1 => q H1 s1⟩
theorem truD_ok {K : Fg} {O : Addr → Prop} {H : Hp} {d : D} {v : V} {k : Bool} (h : Is K O H d v) (e : truD d = some k) : TruV K v H k := by
  cases d with
  | non => rw [Is.non_iff] at h; subst h; cases e; rfl
  | bl b => rw [Is.bl_iff] at h; subst h; cases e; rfl
  | int i => rw [Is.int_iff] at h; subst h; cases e; rfl
  | str s =>
    rw [Is.str_iff] at h; subst h
    simp only [truD] at e
    split at e
    · rename_i hl
      cases e
      refine ⟨by simpa [Str.length] using hl, ?_⟩
      cases s with
      | nil => rfl
      | cons c r =>
        have : ((r.length : Int) + 1) ≠ 0 := by omega
        simpa [Str.length] using this
    · cases e
  | tup l =>
    rw [Is.tup_iff] at h; obtain ⟨a, xs, rfl, hs, hl⟩ := h; cases e
    refine .inr (.inl ⟨xs, hs, ?_⟩)
    have := hl.length
    cases l <;> cases xs <;> simp_all
  | lst l =>
    rw [Is.lst_iff] at h; obtain ⟨a, xs, rfl, hs, hl⟩ := h; cases e
    refine .inl ⟨xs, hs.sq, ?_⟩
    have := hl.length
    cases l <;> cases xs <;> simp_all
  | ty n => cases e
  | ref a => cases e
theorem dt_tru (ha : DE X a f) (he : ∀ whole, isTrue a X.env whole = (do let v ← whole; standAt a.pos; holding [v] (truthy v)) := by intro _; rfl) : DT X a (mTru f) := by
  refine PT.conseq (pt_truth ha he) fun σ H Q h => ?_
  obtain ⟨O0, r, d, hR, e, q⟩ := h
  obtain ⟨x, e1, e⟩ := bind_some e
  exact ⟨O0, r, x, hR, e1, fun v1 H1 s1 i1 => ⟨d, truD_ok i1 e, q H1 s1⟩⟩
theorem dt_truB {fl : ML} (ha : DB X a fl) (he : ∀ whole, isTrue a X.env whole = (do let v ← whole; standAt a.pos; holding [v] (truthy v)) := by intro _; rfl) : DT X a (mTruB fl) := by
  refine PT.conseq (pt_truth ha he) fun σ H Q h => ?_
  obtain ⟨O0, r, d, hR, e, q⟩ := h
  unfold mTruB at e
  cases e1 : fl r with
  | none => rw [e1] at e; cases e
  | some l =>
    rw [e1] at e; cases e
    refine ⟨O0, r, l, hR, e1, fun a xs H1 s1 i1 i2 => ⟨_, .inl ⟨xs, i1, ?_⟩, q H1 s1⟩⟩
    have := i2.length
    cases l <;> cases xs <;> simp_all
end
section
variable {es : List Expr} {fs : ML}
theorem da_nil : DA X [] mNil := PA.conseq pa_nil fun σ H Q ⟨O0, r, l, hR, e, q⟩ => by
  unfold mNil at e; cases e
  exact q [] H (Same.refl H) .nil
theorem da_cons (ha : DE X a f) (hr : DA X es fs) (hs : starEach (a :: es) X.env = (false, eval a X.env) :: starEach es X.env := by rfl) : DA X (a :: es) (mCons f fs) := by
  refine PA.conseq (pa_cons ha hr hs) fun σ H Q h => ?_
  obtain ⟨O0, r, d, hR, e, q⟩ := h
  obtain ⟨x, e1, e⟩ := bind_some e
  obtain ⟨l, e2, e⟩ := bind_some e
  cases e
  exact ⟨O0, r, x, hR, e1, fun v1 H1 s1 i1 => ⟨O0, r, l, hR.same s1, e2, fun vs H2 s2 i2 => q _ H2 (s1.trans s2) (.cons (i1.same s2 (hR.same s1).ol) i2)⟩⟩
theorem same_upd {H : Hp} {p : Addr} {o : HO} (n : H p = none) : Same H (upd H p o) := fun b u e => by rw [upd_ne (ne_of_none e n)]; exact e
theorem de_tup {x1} (h : DA X es fs) : DE X (.Tuple es x1 pos) (mTup fs) := by
  refine PE.conseq (pe_tup h) fun σ H Q h => ?_
  obtain ⟨O0, r, d, hR, e, q⟩ := h
  obtain ⟨l, e1, e⟩ := bind_some e
  split at e
  · rename_i hl
    cases e
    refine ⟨O0, r, l, hR, e1, fun vs H1 s1 i1 => ⟨by rw [← i1.length]; exact hl, fun p hp => q _ _ (s1.trans (same_upd hp)) ?_⟩⟩
    rw [Is.tup_iff]
    exact ⟨p, vs, rfl, SqT.of upd_same, i1.same (same_upd hp) (hR.same s1).ol⟩
  · cases e
theorem df_lst (h : DA X es fs) : DF X (.List es pos) (mLstF fs) := by
  refine PE.conseq (pe_lst h) fun σ H Q h => ?_
  obtain ⟨O0, r, l', hR, e, q⟩ := h
  obtain ⟨l, e1, e⟩ := bind_some e
  split at e
  · rename_i hl
    have e' : l = l' := Option.some.inj e
    subst e'
    refine ⟨O0, r, l, hR, e1, fun vs H1 s1 i1 => ⟨by rw [← i1.length]; exact hl, fun p hp => q _ _ _ (s1.trans (same_upd hp)) (s1.free hp) upd_same ?_⟩⟩
    refine IsL.mono (Same.kp (same_upd hp) _) (hR.same s1).ol (fun a z n => ?_) _ vs i1
    rcases z with z | z
    · exact z
    · subst z; exact absurd hp n
  · cases e
theorem de_f {fl : ML} (h : DF X a fl) : DE X a (mOfF fl) := by
  refine PE.conseq h fun σ H Q h => ?_
  obtain ⟨O0, r, d, hR, e, q⟩ := h
  unfold mOfF at e
  cases e1 : fl r with
  | none => rw [e1] at e; cases e
  | some l =>
    rw [e1] at e; cases e
    refine ⟨O0, r, l, hR, e1, fun p xs H1 s1 n1 e2 i1 => q _ H1 s1 ?_⟩
    rw [Is.lst_iff]
    have ol : OLst (fun b => Ow O0 r σ b ∨ b = p) H1 := fun b z => z.elim (fun z => (hR.same s1).ol b z) fun z => by subst z; exact ⟨xs, e2⟩
    exact ⟨p, xs, rfl, .inl ⟨hR.nofresh n1, .inl e2⟩, IsL.mono (Same.kp (Same.refl H1) _) ol (fun a z _ => .inl z) l xs i1⟩
end
end
def sSkip : MS := fun r => some (.nx r)
def sSeq (g h : MS) : MS := fun r => (g r).bind fun fl => match fl with
  | .nx r' => h r'
  | x => some x
def setV (i : Nat) (d : D) (r : En) : Option En := match r[i]? with
  | some (.p _) => none
  | some (.z _) => none
  | some _ => some (r.set i (.v d))
  | none => none
def setO (i : Nat) (l : List D) (r : En) : Option En := match r[i]? with
  | some (.p _) => none
  | some (.z _) => none
  | some _ => some (r.set i (.o l))
  | none => none
def sSet (i : Nat) (f : ME) : MS := fun r => (f r).bind fun d => (setV i d r).map .nx
def sOwn (i : Nat) (f : ML) : MS := fun r => (f r).bind fun l => (setO i l r).map .nx
def sRet (f : ME) : MS := fun r => (f r).map fun d => .rt d r
def sIf (c : MB) (g h : MS) : MS := fun r => (c r).bind fun b => if b = true then g r else h r
def sX (f : En → Option (D × En)) : MS := fun r => (f r).map fun p => .nx p.2
def sWhile : Nat → MB → MS → MS
  | 0, _, _ => fun _ => none
  | n + 1, c, g => fun r => (c r).bind fun b => if b = true then (g r).bind fun fl => match fl with
      | .nx r' => sWhile n c g r'
      | .ct r' => sWhile n c g r'
      | .bk r' => some (.nx r')
      | x => some x
    else some (.nx r)
def forL (bd : D → En → Option En) (g : MS) : List D → MS
  | [], r => some (.nx r)
  | d :: l, r => (bd d r).bind fun r1 => (g r1).bind fun fl => match fl with
      | .nx r' => forL bd g l r'
      | .ct r' => forL bd g l r'
      | .bk r' => some (.nx r')
      | x => some x
def sFor (bd : D → En → Option En) (it : ML) (g : MS) : MS := fun r => (it r).bind fun l => forL bd g l r
theorem get_set_ne {α : Type} {l : List α} {i j : Nat} {x : α} (h : i ≠ j) : (l.set i x)[j]? = l[j]? := by rw [List.getElem?_set]; simp [h]
theorem get_set_eq {α : Type} {l : List α} {i : Nat} {x : α} (h : i < l.length) : (l.set i x)[i]? = some x := by rw [List.getElem?_set]; simp [h]
section
variable {K : Fg} {O0 : Addr → Prop} {H H1 : Hp} {r : En} {σ : St} {i : Nat} {d : D} {v : V}
theorem own_setv {q : Sl → Option (List D)} (hq : ∀ d, q (.v d) = none) {a : Addr} {x : Option V} (h : AtS q (r.set i (.v d)) (σ.set i x) a) : AtS q r σ a := by
  obtain ⟨j, l, e, q'⟩ := h
  by_cases hj : i = j
  · subst hj
    by_cases hl : i < r.length
    · rw [get_set_eq hl] at e
      have e' : q (.v d) = some l := e
      rw [hq] at e'; cases e'
    · rw [List.getElem?_eq_none (by simpa using hl)] at e; cases e
  · rw [get_set_ne hj] at e q'
    exact ⟨j, l, e, q'⟩
theorem R.setv (h : R K O0 H r σ) (hi : i < r.length) (np : ∀ l, r[i]? ≠ some (.p l) ∧ r[i]? ≠ some (.z l)) (hv : Is K (Ow O0 r σ) H d v) : R K O0 H (r.set i (.v d)) (σ.set i (some v)) ∧ Kp H r σ H (r.set i (.v d)) (σ.set i (some v)) := by
  have his : i < σ.length := by rw [← h.len]; exact hi
  have sub : ∀ a, Ow O0 (r.set i (.v d)) (σ.set i (some v)) a → H a ≠ none → Ow O0 r σ a := fun a z _ => z.elim .inl fun z => .inr (own_setv (fun _ => rfl) z)
  have ne : ∀ (j : Nat) (l : List D), ((r.set i (.v d))[j]?).bind Sl.own = some l → i ≠ j := fun j l e z => by subst z; rw [get_set_eq hi] at e; cases e
  refine ⟨⟨by simp [h.len], fun j d' e => ?_, fun j l e => ?_, fun j k a l m e1 e2 q1 q2 => ?_, h.o0, fun j l a e q => ?_, fun j l a e q => ?_⟩, ⟨fun b o e _ => e, fun b e => e, fun b xs e => ⟨xs, e⟩, fun b z => .inl (own_setv (fun _ => rfl) z), fun b z => .inl (own_setv (fun _ => rfl) z), fun j l e => ?_, fun j l e => ?_⟩⟩
  · by_cases hj : i = j
    · subst hj
      rw [get_set_eq hi] at e; cases e
      exact ⟨v, get_set_eq his, Is.mono (Same.kp (Same.refl H) _) h.ol sub _ _ hv⟩
    · rw [get_set_ne hj] at e
      obtain ⟨u, e1, q⟩ := h.val j d' e
      exact ⟨u, by rw [get_set_ne hj]; exact e1, Is.mono (Same.kp (Same.refl H) _) h.ol sub _ _ q⟩
  · have hj := ne j l e
    rw [get_set_ne hj] at e
    obtain ⟨a, xs, e1, e2, q⟩ := h.own j l e
    exact ⟨a, xs, by rw [get_set_ne hj]; exact e1, e2, IsL.mono (Same.kp (Same.refl H) _) h.ol sub _ _ q⟩
  · have hj := ne j l e1
    have hk := ne k m e2
    rw [get_set_ne hj] at e1 q1
    rw [get_set_ne hk] at e2 q2
    exact h.apart j k a l m e1 e2 q1 q2
  · have hj : i ≠ j := ne j l (by rcases e with e | e <;> rw [e] <;> rfl)
    rw [get_set_ne hj] at e q
    exact h.loc j l a e q
  · have hj : i ≠ j := ne j l (by rw [e]; rfl)
    rw [get_set_ne hj] at e q
    exact h.par j l a e q
  · have hj : i ≠ j := fun z => by subst z; exact (np l).1 e
    exact ⟨⟨l, by rw [get_set_ne hj]; exact e⟩, get_set_ne hj⟩
  · have hj : i ≠ j := fun z => by subst z; exact (np l).2 e
    exact ⟨by rw [get_set_ne hj]; exact e, get_set_ne hj⟩
theorem R.seto {l : List D} {xs : List V} {p : Addr} (h : R K O0 H r σ) (s : Same H H1) (n : H p = none) (e : H1 p = some (.lst xs)) (hl : IsL K (fun b => Ow O0 r σ b ∨ b = p) H1 l xs) (hi : i < r.length) (np : ∀ l, r[i]? ≠ some (.p l) ∧ r[i]? ≠ some (.z l)) :
    R K O0 H1 (r.set i (.o l)) (σ.set i (some (.ref p))) ∧ Kp H r σ H1 (r.set i (.o l)) (σ.set i (some (.ref p))) := by
  have his : i < σ.length := by rw [← h.len]; exact hi
  have ow : ∀ {q : Sl → Option (List D)} a, AtS q (r.set i (.o l)) (σ.set i (some (.ref p))) a → AtS q r σ a ∨ a = p := fun {q} a z => by
    obtain ⟨j, m, e1, q1⟩ := z
    by_cases hj : i = j
    · subst hj
      rw [get_set_eq his] at q1; cases q1; exact .inr rfl
    · rw [get_set_ne hj] at e1 q1
      exact .inl ⟨j, m, e1, q1⟩
  have sub : ∀ a, Ow O0 (r.set i (.o l)) (σ.set i (some (.ref p))) a → H a ≠ none → Ow O0 r σ a := fun a z nn => z.elim .inl fun z => (ow a z).elim .inr fun z => by subst z; exact absurd n nn
  have olp : OLst (fun b => Ow O0 r σ b ∨ b = p) H1 := fun b z => z.elim (fun z => (h.same s).ol b z) fun z => by subst z; exact ⟨xs, e⟩
  refine ⟨⟨by simp [h.len], fun j d' e1 => ?_, fun j m e1 => ?_, fun j k a l1 m e1 e2 q1 q2 => ?_, (h.same s).o0, fun j m a e1 q => ?_, fun j m a e1 q => ?_⟩, ⟨fun b o e1 _ => s b o e1, fun b e1 => s.free e1, fun b ys e1 => ⟨ys, s _ _ e1⟩, fun b z => (ow b z).imp id fun z => by subst z; exact n, fun b z => (ow b z).imp id fun z => by subst z; exact n, fun j m e1 => ?_, fun j m e1 => ?_⟩⟩
  · have hj : i ≠ j := fun z => by subst z; rw [get_set_eq hi] at e1; cases e1
    rw [get_set_ne hj] at e1
    obtain ⟨u, e2, q⟩ := h.val j d' e1
    exact ⟨u, by rw [get_set_ne hj]; exact e2, Is.mono (Same.kp s _) h.ol sub _ _ q⟩
  · by_cases hj : i = j
    · subst hj
      rw [get_set_eq hi] at e1; cases e1
      refine ⟨p, xs, get_set_eq his, e, IsL.mono (Same.kp (Same.refl H1) _) olp (fun a z _ => z.elim (fun z => .inl (.inl z)) fun z => (ow a z).imp .inr id) _ _ hl⟩
    · rw [get_set_ne hj] at e1
      obtain ⟨a, ys, e2, e3, q⟩ := h.own j m e1
      exact ⟨a, ys, by rw [get_set_ne hj]; exact e2, s _ _ e3, IsL.mono (Same.kp s _) h.ol sub _ _ q⟩
  · have out : ∀ (j : Nat) (m : List D) (a : Addr), i ≠ j → ((r.set i (.o l))[j]?).bind Sl.own = some m → (σ.set i (some (.ref p)))[j]? = some (some (.ref a)) → a ≠ p := fun j m a hj e1 q1 z => by
      rw [get_set_ne hj] at e1 q1
      obtain ⟨b, ys, e2, e3, _⟩ := h.own j m e1
      rw [q1] at e2; cases e2
      subst z
      rw [n] at e3; cases e3
    by_cases hj : i = j
    · by_cases hk : i = k
      · exact hj.symm.trans hk
      · subst hj
        rw [get_set_eq his] at q1; cases q1
        exact absurd rfl (out k m p hk e2 q2)
    · by_cases hk : i = k
      · subst hk
        rw [get_set_eq his] at q2; cases q2
        exact absurd rfl (out j l1 p hj e1 q1)
      · rw [get_set_ne hj] at e1 q1
        rw [get_set_ne hk] at e2 q2
        exact h.apart j k a l1 m e1 e2 q1 q2
  · by_cases hj : i = j
    · subst hj
      rw [get_set_eq his] at q; cases q
      exact fun z => by obtain ⟨ys, e3⟩ := h.o0 p z; rw [n] at e3; cases e3
    · rw [get_set_ne hj] at e1 q
      exact h.loc j m a e1 q
  · have hj : i ≠ j := fun z => by subst z; rw [get_set_eq hi] at e1; cases e1
    rw [get_set_ne hj] at e1 q
    exact h.par j m a e1 q
  · have hj : i ≠ j := fun z => by subst z; exact (np m).1 e1
    exact ⟨⟨m, by rw [get_set_ne hj]; exact e1⟩, get_set_ne hj⟩
  · have hj : i ≠ j := fun z => by subst z; exact (np m).2 e1
    exact ⟨by rw [get_set_ne hj]; exact e1, get_set_ne hj⟩
theorem setV_some {r' : En} (e : setV i d r = some r') : i < r.length ∧ (∀ l, r[i]? ≠ some (.p l) ∧ r[i]? ≠ some (.z l)) ∧ r' = r.set i (.v d) := by
  unfold setV at e
  cases e1 : r[i]? with
  | none => rw [e1] at e; cases e
  | some x =>
    have hi : i < r.length := (List.getElem?_eq_some_iff.mp e1).1
    rw [e1] at e
    cases x with
    | p l => cases e
    | z l => cases e
    | _ => cases e; exact ⟨hi, fun l => ⟨(fun z => by cases z), (fun z => by cases z)⟩, rfl⟩
theorem setO_some {r' : En} {l : List D} (e : setO i l r = some r') : i < r.length ∧ (∀ l, r[i]? ≠ some (.p l) ∧ r[i]? ≠ some (.z l)) ∧ r' = r.set i (.o l) := by
  unfold setO at e
  cases e1 : r[i]? with
  | none => rw [e1] at e; cases e
  | some x =>
    have hi : i < r.length := (List.getElem?_eq_some_iff.mp e1).1
    rw [e1] at e
    cases x with
    | p l => cases e
    | z l => cases e
    | _ => cases e; exact ⟨hi, fun l => ⟨(fun z => by cases z), (fun z => by cases z)⟩, rfl⟩
theorem map_some {α β : Type} {o : Option α} {h : α → β} {y : β} (e : o.map h = some y) : ∃ x, o = some x ∧ h x = y := by
  cases o with
  | none => cases e
  | some x => exact ⟨x, rfl, Option.some.inj e⟩
theorem Is.less {O : Addr → Prop} (h : R K O0 H r σ) (hi : Is K (Ow O0 r σ) H1 d v) (s : Same H H1) : Is K O0 H1 d v := Is.mono (Same.kp (Same.refl H1) _) (h.same s).ol (fun _ z _ => .inl z) _ _ hi
end
section
variable {X : Cx} {pos : Pos} {e : Expr} {f : ME} {fl : ML} {g h : MS} {st : Stmt} {rest : List Stmt}
theorem ds_nil : DSs X [] sSkip := PSs.conseq pss_nil fun Dn σ H ⟨O0, r, f', hR, e, q⟩ => by
  unfold sSkip at e; cases e
  exact q σ H hR (Kp.refl H r σ)
theorem ds_cons (h1 : DS X st g) (h2 : DSs X rest h) : DSs X (st :: rest) (sSeq g h) := by
  refine PSs.conseq (pss_cons h1 h2) fun Dn σ H hq => ?_
  obtain ⟨O0, r, fl, hR, e, q⟩ := hq
  obtain ⟨f1, e1, e2⟩ := bind_some e
  cases f1 with
  | nx r1 => exact ⟨O0, r, .nx r1, hR, e1, fun σ' H' R' k => ⟨O0, r1, fl, R', e2, q.before R' k⟩⟩
  | bk r1 => cases e2; exact ⟨O0, r, _, hR, e1, q⟩
  | ct r1 => cases e2; exact ⟨O0, r, _, hR, e1, q⟩
  | rt d r1 => cases e2; exact ⟨O0, r, _, hR, e1, q⟩
  | rf l r1 => cases e2; exact ⟨O0, r, _, hR, e1, q⟩
theorem ds_one (h1 : DS X st g) : DSs X [st] g := pss_one h1
theorem ds_set (i : Nat) {x : Str} {pos' : Pos} (he : DE X e f) (hN : X.N.Nodup) (hi : X.N[i]? = some x := by rfl) (hx : Loc X.env.scope x := by first | exact Or.inl rfl | exact Or.inr rfl) (hs : swapsWith e (some (.Name x pos')) pos.line X.env = pure false := by rfl) (hf : X.fn x = true ∨ X.env.scope.names.lookup x = some .local := by first | exact .inl rfl | exact .inr rfl) :
    DS X (.Assign [.Name x pos'] e pos) (sSet i f) := by
  refine PS.conseq (ps_set hN hi hx he hs hf) fun Dn σ H hq => ?_
  obtain ⟨O0, r, fl, hR, e, q⟩ := hq
  obtain ⟨d, e1, e2⟩ := bind_some e
  obtain ⟨r', e3, rfl⟩ := map_some e2
  obtain ⟨hl, np, rfl⟩ := setV_some e3
  refine ⟨O0, r, d, hR, e1, fun v H1 s1 i1 => ?_⟩
  obtain ⟨R1, k1⟩ := (hR.same s1).setv hl np i1
  exact q _ H1 R1 ((Kp.of_same r σ s1).trans k1)
theorem ds_own (i : Nat) {x : Str} {pos' : Pos} (he : DF X e fl) (hN : X.N.Nodup) (hi : X.N[i]? = some x := by rfl) (hx : Loc X.env.scope x := by first | exact Or.inl rfl | exact Or.inr rfl) (hs : swapsWith e (some (.Name x pos')) pos.line X.env = pure false := by rfl) (hf : X.fn x = true ∨ X.env.scope.names.lookup x = some .local := by first | exact .inl rfl | exact .inr rfl) :
    DS X (.Assign [.Name x pos'] e pos) (sOwn i fl) := by
  refine PS.conseq (ps_set hN hi hx he hs hf) fun Dn σ H hq => ?_
  obtain ⟨O0, r, fl', hR, e, q⟩ := hq
  obtain ⟨l, e1, e2⟩ := bind_some e
  obtain ⟨r', e4, rfl⟩ := map_some e2
  obtain ⟨hl, np, rfl⟩ := setO_some e4
  refine ⟨O0, r, l, hR, e1, fun p xs H1 s1 n1 e3 i1 => ?_⟩
  obtain ⟨R1, k1⟩ := hR.seto s1 n1 e3 i1 hl np
  exact q _ H1 R1 k1
theorem ds_ret (he : DE X e f) : DS X (.Return (some e) pos) (sRet f) := by
  refine PS.conseq (ps_ret he) fun Dn σ H hq => ?_
  obtain ⟨O0, r, fl, hR, e, q⟩ := hq
  obtain ⟨d, e1, rfl⟩ := map_some e
  exact ⟨O0, r, d, hR, e1, fun v H1 s1 i1 => q v σ H1 (hR.same s1) (Kp.of_same r σ s1) (Is.less (O := O0) hR i1 s1)⟩
theorem ds_if {c : Expr} {sa sb : List Stmt} {tc : MB} (hc : DT X c tc) (ha : DSs X sa g) (hb : DSs X sb h) : DS X (.If c sa sb pos) (sIf tc g h) := by
  refine PS.conseq (ps_if hc ha hb) fun Dn σ H hq => ?_
  obtain ⟨O0, r, fl', hR, e, q⟩ := hq
  obtain ⟨k, e1, e2⟩ := bind_some e
  refine ⟨O0, r, k, hR, e1, fun H1 s1 => ?_⟩
  have R1 := hR.same s1
  have q1 := PostS.before R1 (Kp.of_same r σ s1) q
  cases k with
  | true => rw [if_pos rfl] at e2; exact iteT ⟨O0, r, fl', R1, e2, q1⟩
  | false => rw [if_neg Bool.false_ne_true] at e2; exact iteF ⟨O0, r, fl', R1, e2, q1⟩
theorem ds_x {fx : En → Option (D × En)} (he : DX X e fx) (hs : swapsWith e none pos.line X.env = pure false := by rfl) : DS X (.Expr e pos) (sX fx) := by
  refine PS.conseq (ps_expr he hs) fun Dn σ H hq => ?_
  obtain ⟨O0, r, fl', hR, e, q⟩ := hq
  obtain ⟨⟨d, r'⟩, e1, rfl⟩ := map_some e
  exact ⟨O0, r, d, r', hR, e1, fun v H1 R1 k1 i1 => q σ H1 R1 k1⟩
theorem ds_while (n : Nat) {c : Expr} {body : List Stmt} {tc : MB} (hp : PassesOwn (model X.prog X.w) X.A X.env X.xe) (hc : DT X c tc) (hb : DSs X body g) : DS X (.While c body [] pos) (sWhile n tc g) := by
  refine PS.conseq (ps_while hp hc hb) fun Dn σ H hq => ?_
  obtain ⟨O0, r, fl, hR, e, q⟩ := hq
  refine ⟨fun m σ1 H1 => ∃ r1, R X.K O0 H1 r1 σ1 ∧ Kp H r σ H1 r1 σ1 ∧ sWhile m tc g r1 = some fl, ⟨n, r, hR, Kp.refl H r σ, e⟩, ?_⟩
  rintro m σ1 H1 ⟨r1, R1, k1, e1⟩
  cases m with
  | zero => cases e1
  | succ m =>
    obtain ⟨b, e2, e3⟩ := bind_some e1
    refine ⟨O0, r1, b, R1, e2, fun H2 s2 => ?_⟩
    have R2 := R1.same s2
    have k2 := k1.trans (Kp.of_same r1 σ1 s2)
    cases b with
    | false =>
      rw [if_neg Bool.false_ne_true] at e3
      cases e3
      exact iteF (q σ1 H2 R2 k2)
    | true =>
      rw [if_pos rfl] at e3
      obtain ⟨f1, e4, e5⟩ := bind_some e3
      refine iteT ⟨fun σ3 H3 => ∃ r3, R X.K O0 H3 r3 σ3 ∧ Kp H r σ H3 r3 σ3 ∧ sWhile m tc g r3 = some fl, fun σ3 H3 z => ⟨m, Nat.lt_succ_self m, z⟩, O0, r1, f1, R2, e4, ?_⟩
      cases f1 with
      | nx r3 => exact fun σ3 H3 R3 k3 => ⟨r3, R3, k2.trans k3, e5⟩
      | ct r3 => exact fun σ3 H3 R3 k3 => ⟨r3, R3, k2.trans k3, e5⟩
      | bk r3 => cases e5; exact fun σ3 H3 R3 k3 => q σ3 H3 R3 (k2.trans k3)
      | rt d r3 => cases e5; exact PostS.before R2 k2 q
      | rf l r3 => cases e5; exact PostS.before R2 k2 q
end
def lG (K : Fg) (bd : D → En → Option En) : TG := fun v σ H Q => ∃ O0 r d r', R K O0 H r σ ∧ Is K (Ow O0 r σ) H d v ∧ bd d r = some r' ∧ ∀ σ', R K O0 H r' σ' → Kp H r σ H r' σ' → Q σ' H
def DG (X : Cx) (tg : Expr) (bd : D → En → Option En) : Prop := PG X tg (lG X.K bd)
def Ylds (K : Fg) (O M : Addr → Prop) (H0 : Hp) (J : It) (l : List D) : Prop := ∀ (i : Nat) (H : Hp) (O' : Addr → Prop), Keep M H0 H → (∀ a, O' a → H0 a ≠ none → O a) →
  (i < l.length → J.go i H ∧ ∀ x H', J.yld i H x H' → Same H H' ∧ ∀ d, l[i]? = some d → Is K O' H' d x) ∧ (i = l.length → J.stop i H)
def lI (K : Fg) (it : ML) : TI := fun σ H Rr => ∃ O0 r l, R K O0 H r σ ∧ it r = some l ∧ ∀ J H', Same H H' → Ylds K (Ow O0 r σ) (MutAt r σ) H' J l → Rr J H'
def DI (X : Cx) (tg iter : Expr) (it : ML) : Prop := PI X tg iter (lI X.K it)
theorem PG.conseq {X : Cx} {e : Expr} {t t' : TG} (h : PG X e t) (i : ∀ v σ H Q, t' v σ H Q → t v σ H Q) : PG X e t' := fun pins s σ H v u Q I r q => h pins s σ H v u Q I r (i v σ H Q q)
theorem PI.conseq {X : Cx} {tg e : Expr} {t t' : TI} (h : PI X tg e t) (i : ∀ σ H Q, t' σ H Q → t σ H Q) : PI X tg e t' := fun pins s σ H Q I q => h pins s σ H Q I (i σ H Q q)
theorem drop_cons {α : Type} {l : List α} {i : Nat} {d : α} (h : l[i]? = some d) : l.drop i = d :: l.drop (i + 1) := by
  obtain ⟨lt, eq⟩ := List.getElem?_eq_some_iff.mp h
  rw [← eq, List.drop_eq_getElem_cons lt]
section
variable {X : Cx} {pos : Pos} {tg iter : Expr} {bd : D → En → Option En} {it : ML} {g : MS} {body : List Stmt}
theorem ds_for (hp : PassesOwn (model X.prog X.w) X.A X.env X.xe) (hc : X.calm = true) (hi : DI X tg iter it) (hg : DG X tg bd) (hb : DSs X body g) (hs : ∀ x, foldedSetIterable iter X.env x = pure x := by intro _; rfl) :
    DS X (.For tg iter body [] pos) (sFor bd it g) := by
  refine PS.conseq (ps_for hp hc hi hg hb hs) fun Dn σ H hq => ?_
  obtain ⟨O0, r, fl, hR, e, q⟩ := hq
  obtain ⟨l, e1, e2⟩ := bind_some e
  refine ⟨O0, r, l, hR, e1, fun J H0 s0 yl => ?_⟩
  have R0 := hR.same s0
  refine ⟨fun i m σ1 H1 => m = l.length - i ∧ i ≤ l.length ∧ ∃ r1, R X.K O0 H1 r1 σ1 ∧ Kp H0 r σ H1 r1 σ1 ∧ forL bd g (l.drop i) r1 = some fl, ⟨l.length, by simp, Nat.zero_le _, r, R0, Kp.refl H0 r σ, by simpa using e2⟩, ?_⟩
  rintro i m σ1 H1 ⟨rfl, hil, r1, R1, k1, e3⟩
  have k0 := (Kp.of_same r σ s0).trans k1
  obtain ⟨y1, y2⟩ := yl i H1 (Ow O0 r1 σ1) k1.keep fun a z n => z.elim .inl fun z => (k1.new a z).elim .inr fun z => absurd z n
  by_cases hlt : i < l.length
  · obtain ⟨go, yd⟩ := y1 hlt
    have hd : l[i]? = some l[i] := by simp [hlt]
    rw [drop_cons hd] at e3
    obtain ⟨r2, e4, e5⟩ := bind_some e3
    obtain ⟨f1, e6, e7⟩ := bind_some e5
    refine .inr ⟨go, fun σ3 H3 => ∃ r3, R X.K O0 H3 r3 σ3 ∧ Kp H0 r σ H3 r3 σ3 ∧ forL bd g (l.drop (i + 1)) r3 = some fl, fun σ3 H3 z => ⟨l.length - (i + 1), by omega, rfl, hlt, z⟩, fun x H2 yx => ?_⟩
    obtain ⟨s2, ix⟩ := yd x H2 yx
    have R2 := R1.same s2
    refine ⟨O0, r1, l[i], r2, R2, ix _ hd, e4, fun σ2 R2' k2 => ⟨O0, r2, f1, R2', e6, ?_⟩⟩
    have k3 := (k1.trans (Kp.of_same r1 σ1 s2)).trans k2
    have k4 := (k0.trans (Kp.of_same r1 σ1 s2)).trans k2
    cases f1 with
    | nx r3 => exact fun σ3 H3 R3 kk => ⟨r3, R3, k3.trans kk, e7⟩
    | ct r3 => exact fun σ3 H3 R3 kk => ⟨r3, R3, k3.trans kk, e7⟩
    | bk r3 => cases e7; exact fun σ3 H3 R3 kk => q σ3 H3 R3 (k4.trans kk)
    | rt d r3 => cases e7; exact PostS.before R2' k4 q
    | rf l' r3 => cases e7; exact PostS.before R2' k4 q
  · have hl : l.drop i = [] := List.drop_eq_nil_of_le (by omega)
    rw [hl] at e3
    cases e3
    exact .inl ⟨y2 (by omega), q σ1 H1 R1 k0⟩
theorem dg_name (i : Nat) {x : Str} (hN : X.N.Nodup) (hi : X.N[i]? = some x := by rfl) (hx : Loc X.env.scope x := by first | exact Or.inl rfl | exact Or.inr rfl) (hf : X.fn x = true ∨ X.env.scope.names.lookup x = some .local := by first | exact .inl rfl | exact .inr rfl) : DG X (.Name x pos) (setV i) := by
  refine PG.conseq (pg_name hN hi hx hf) fun v σ H Q h => ?_
  obtain ⟨O0, r, d, r', hR, iv, e, q⟩ := h
  obtain ⟨hl, np, rfl⟩ := setV_some e
  obtain ⟨R1, k1⟩ := hR.setv hl np iv
  exact q _ R1 k1
def bdNil : List D → En → Option En := fun l r => if l.isEmpty then some r else none
def bdCons (b : D → En → Option En) (bs : List D → En → Option En) : List D → En → Option En := fun l r => match l with
  | [] => none
  | d :: t => (b d r).bind fun r1 => bs t r1
def lGs (K : Fg) (bs : List D → En → Option En) : TGs := fun vs σ H Q => ∃ O0 r l r', R K O0 H r σ ∧ IsL K (Ow O0 r σ) H l vs ∧ bs l r = some r' ∧ ∀ σ', R K O0 H r' σ' → Kp H r σ H r' σ' → Q σ' H
def DGs (X : Cx) (ts : List Expr) (bs : List D → En → Option En) : Prop := PGs X ts (lGs X.K bs)
theorem PGs.conseq {e : List Expr} {t t' : TGs} (h : PGs X e t) (i : ∀ v σ H Q, t' v σ H Q → t v σ H Q) : PGs X e t' := fun pins s σ H v u Q I r q => h pins s σ H v u Q I r (i v σ H Q q)
theorem dgs_nil : DGs X [] bdNil := by
  refine PGs.conseq pgs_nil fun vs σ H Q h => ?_
  obtain ⟨O0, r, l, r', hR, il, e, q⟩ := h
  unfold bdNil at e
  cases l with
  | nil =>
    unfold IsL at il
    cases e
    exact ⟨il, q σ hR (Kp.refl H r σ)⟩
  | cons d l => cases e
theorem dgs_cons {e : Expr} {es : List Expr} {bs : List D → En → Option En} (h1 : DG X e bd) (h2 : DGs X es bs) (hs : (assignEach (e :: es) X.env).map (·.2) = assign e X.env :: (assignEach es X.env).map (·.2) := by rfl) : DGs X (e :: es) (bdCons bd bs) := by
  refine PGs.conseq (pgs_cons h1 h2 hs) fun vs σ H Q h => ?_
  obtain ⟨O0, r, l, r', hR, il, e, q⟩ := h
  cases l with
  | nil => cases e
  | cons d t =>
    unfold IsL at il
    obtain ⟨v, us, rfl, i1, i2⟩ := il
    obtain ⟨r1, e1, e2⟩ := bind_some e
    refine ⟨v, us, rfl, O0, r, d, r1, hR, i1, e1, fun σ1 R1 k1 => ⟨O0, r1, t, r', R1, ?_, e2, fun σ2 R2 k2 => q σ2 R2 (k1.trans k2)⟩⟩
    exact IsL.mono (Same.kp (Same.refl H) _) hR.ol (fun a z n => z.elim .inl fun z => (k1.new a z).elim .inr fun z => absurd z n) _ _ i2
end
inductive Rs where
  | v (d : D) | f (l : List D)
abbrev MF := List Sl → Option (Rs × List Sl)
structure PostF (K : Fg) (O0 : Addr → Prop) (H : Hp) (as : List Sl) (vs : List V) (H' : Hp) (as' : List Sl) : Prop where
  keep : Keep (MutAt as (vs.map some)) H H'
  live : ∀ b, H' b = none → H b = none
  lst : ∀ b xs, H b = some (.lst xs) → ∃ ys, H' b = some (.lst ys)
  par : ∀ (i : Nat) (l : List D), as[i]? = some (.p l) → ∃ l' a xs, as'[i]? = some (.p l') ∧ vs[i]? = some (.ref a) ∧ H' a = some (.lst xs) ∧ IsL K O0 H' l' xs
def RsP (K : Fg) (O0 : Addr → Prop) (H : Hp) (as : List Sl) (vs : List V) (as' : List Sl) (Q : VK) : Rs → Prop
  | .v d => ∀ v H', PostF K O0 H as vs H' as' → Is K O0 H' d v → Q v H'
  | .f l => ∀ a xs H', PostF K O0 H as vs H' as' → H a = none → H' a = some (.lst xs) → IsL K (fun b => O0 b ∨ b = a) H' l xs → Q (.ref a) H'
def spD (K : Fg) (n : Nat) (m : MF) : Sp := fun vs H Q _ => ∃ O0 as rs as', as.length = n ∧ R K O0 H as (vs.map some) ∧ (∀ (i : Nat) (l : List D), as[i]? ≠ some (.o l) ∧ as[i]? ≠ some (.z l)) ∧ m as = some (rs, as') ∧ RsP K O0 H as vs as' Q rs
def mkF (n N : Nat) (g : MS) : MF := fun as => (g (as ++ List.replicate (N - n) .un)).bind fun fl => match fl with
  | .rt d r' => some (.v d, r'.take n)
  | .rf l r' => some (.f l, r'.take n)
  | .nx r' => some (.v .non, r'.take n)
  | _ => none
section
variable {P : Program} {w : World} {K : Fg} {mg : Str → Option Value} {base : Heap}
theorem own_start {q : Sl → Option (List D)} (hq : q .un = none) {as : List Sl} {vs : List V} {k n : Nat} {a : Addr} (hl : as.length = vs.length) : AtS q (as ++ List.replicate k .un) (vs.map some ++ List.replicate n none) a ↔ AtS q as (vs.map some) a := by
  constructor
  · rintro ⟨i, l, e, q'⟩
    by_cases hi : i < as.length
    · rw [List.getElem?_append_left hi] at e
      rw [List.getElem?_append_left (by simp; omega)] at q'
      exact ⟨i, l, e, q'⟩
    · rw [List.getElem?_append_right (by omega), List.getElem?_replicate] at e
      split at e
      · have e' : q .un = some l := e
        rw [hq] at e'; cases e'
      · cases e
  · rintro ⟨i, l, e, q'⟩
    have hi : i < as.length := by
      cases e1 : as[i]? with
      | none => rw [e1] at e; cases e
      | some x => exact (List.getElem?_eq_some_iff.mp e1).1
    exact ⟨i, l, by rw [List.getElem?_append_left hi]; exact e, by rw [List.getElem?_append_left (by simp; omega)]; exact q'⟩
theorem R.start {O0 : Addr → Prop} {H : Hp} {as : List Sl} {vs : List V} {k : Nat} (h : R K O0 H as (vs.map some)) : R K O0 H (as ++ List.replicate k .un) (vs.map some ++ List.replicate k none) := by
  have hl : as.length = vs.length := by simpa using h.len
  have own : ∀ a, Ow O0 (as ++ List.replicate k .un) (vs.map some ++ List.replicate k none) a → H a ≠ none → Ow O0 as (vs.map some) a := fun a z _ => z.imp id (own_start rfl hl).mp
  have pre : ∀ (i : Nat) (x : Sl), (as ++ List.replicate k .un)[i]? = some x → x ≠ .un → as[i]? = some x ∧ (vs.map some ++ List.replicate k none)[i]? = (vs.map some)[i]? := fun i x e n => by
    by_cases hi : i < as.length
    · rw [List.getElem?_append_left hi] at e
      exact ⟨e, List.getElem?_append_left (by simp; omega)⟩
    · rw [List.getElem?_append_right (by omega), List.getElem?_replicate] at e
      split at e
      · cases e; exact absurd rfl n
      · cases e
  have preO : ∀ (i : Nat) (l : List D), ((as ++ List.replicate k .un)[i]?).bind Sl.own = some l → (as[i]?).bind Sl.own = some l ∧ (vs.map some ++ List.replicate k none)[i]? = (vs.map some)[i]? := fun i l e => by
    cases e1 : (as ++ List.replicate k .un)[i]? with
    | none => rw [e1] at e; cases e
    | some x =>
      obtain ⟨q1, q2⟩ := pre i x e1 (by rintro rfl; rw [e1] at e; cases e)
      rw [e1] at e
      exact ⟨by rw [q1]; exact e, q2⟩
  refine ⟨by simp [hl], fun i d e => ?_, fun i l e => ?_, fun i j a l m e1 e2 q1 q2 => ?_, h.o0, fun i l a e q => ?_, fun i l a e q => ?_⟩
  · obtain ⟨q1, q2⟩ := pre i _ e (by intro z; cases z)
    obtain ⟨v, e3, q3⟩ := h.val i d q1
    exact ⟨v, q2.trans e3, Is.mono (Same.kp (Same.refl H) _) h.ol own _ _ q3⟩
  · obtain ⟨q1, q2⟩ := preO i l e
    obtain ⟨a, xs, e3, e4, q3⟩ := h.own i l q1
    exact ⟨a, xs, q2.trans e3, e4, IsL.mono (Same.kp (Same.refl H) _) h.ol own _ _ q3⟩
  · obtain ⟨p1, p2⟩ := preO i l e1
    obtain ⟨p3, p4⟩ := preO j m e2
    exact h.apart i j a l m p1 p3 (p2 ▸ q1) (p4 ▸ q2)
  · rcases e with e | e
    · obtain ⟨p1, p2⟩ := pre i _ e (by intro z; cases z)
      exact h.loc i l a (.inl p1) (p2 ▸ q)
    · obtain ⟨p1, p2⟩ := pre i _ e (by intro z; cases z)
      exact h.loc i l a (.inr p1) (p2 ▸ q)
  · obtain ⟨p1, p2⟩ := pre i _ e (by intro z; cases z)
    exact h.par i l a p1 (p2 ▸ q)
theorem fn_d {x qual : Str} {st : Stmt} {f : Addr} {fd : FuncData} {N ps : List Str} {k : Nat} {g : MS} (F : Fun K x qual st f fd) (S : FnScope N ps (defScope st)) (n : Nat) (nN : Nat) (hn : ps.length = n := by rfl) (hN : N.length = nN := by rfl)
    (hb : ∀ (cdv : Value) (A : Around) (outer : List Env) (s : Shared) (H : Hp) (E : XK), Room k (A.deeper (envOfC qual (defScope st) s.heap.objs.size f cdv)) →
      DSs (cxOf CX0 P w K mg base N qual (defScope st) f cdv A outer s H E).nox (defBody st) g) : FnOk P w K mg base CX0 (k + 1) f fd ps (spD K n (mkF n nN g)) := by
  subst hn hN
  refine F.ok S (fun vs H Q E h => ?_) (fun cdv A outer s H vs Q E hr h => ?_)
  · obtain ⟨O0, as, rs, as', hl, hR, _⟩ := h
    have := hR.len
    simp at this; omega
  · obtain ⟨O0, as, rs, as', hl, hR, no, e, q⟩ := h
    have hlv : as.length = vs.length := by simpa using hR.len
    refine ⟨_, hb cdv A outer s H E hr, ?_⟩
    obtain ⟨fl, e1, e2⟩ := bind_some e
    have hst : L2.start N vs = vs.map some ++ List.replicate (N.length - ps.length) none := by unfold L2.start; rw [← hlv, hl]
    rw [hst]
    have R0 := R.start (k := N.length - ps.length) hR
    have fin : ∀ (σ' : St) (H' : Hp) (r' : En), R K O0 H' r' σ' → Kp H (as ++ List.replicate (N.length - ps.length) .un) (vs.map some ++ List.replicate (N.length - ps.length) none) H' r' σ' → PostF K O0 H as vs H' (r'.take ps.length) := fun σ' H' r' R' k' => by
      refine ⟨fun b o eb nb => k'.keep b o eb fun z => nb ((own_start rfl hlv).mp z), k'.live, k'.lst, fun i l ei => ?_⟩
      have hi : i < as.length := (List.getElem?_eq_some_iff.mp ei).1
      obtain ⟨⟨l', e3⟩, e4⟩ := k'.par i l (by rw [List.getElem?_append_left hi]; exact ei)
      rw [List.getElem?_append_left (by simp; omega)] at e4
      obtain ⟨a, xs, e5, e6, e7⟩ := R'.own i l' (by rw [e3]; rfl)
      rw [e4] at e5
      have ev : vs[i]? = some (.ref a) := by
        rw [List.getElem?_map] at e5
        cases e8 : vs[i]? with
        | none => rw [e8] at e5; cases e5
        | some y => rw [e8] at e5; cases e5; rfl
      exact ⟨l', a, xs, by rw [List.getElem?_take_of_lt (by omega)]; exact e3, ev, e6, IsL.mono (Same.kp (Same.refl H') _) R'.ol (fun _ z _ => .inl z) _ _ e7⟩
    refine ⟨O0, _, fl, R0, e1, ?_⟩
    cases fl with
    | nx r' => cases e2; exact fun σ' H' R' k' => q .non H' (fin σ' H' r' R' k') (by rw [Is.non_iff])
    | bk r' => cases e2
    | ct r' => cases e2
    | rt d r' => cases e2; exact fun v σ' H' R' k' i' => q v H' (fin σ' H' r' R' k') i'
    | rf l r' =>
      cases e2
      refine fun a xs σ' H' R' k' fr no0 ea il => q a xs H' (fin σ' H' r' R' k') ?_ ea il
      rcases fr with z | ⟨i, m, ei, _⟩
      · exact z
      · exfalso
        by_cases hi : i < as.length
        · rw [List.getElem?_append_left hi] at ei; exact (no i m).1 ei
        · rw [List.getElem?_append_right (by omega), List.getElem?_replicate] at ei
          split at ei <;> cases ei
theorem fn_0 {f : Addr} {fd : FuncData} {ps : List Str} {k : Nat} (n : Nat) : FnOk P w K mg base CX0 k f fd ps (spD K n fun _ => none) :=
  ⟨(fun vs H Q E h => by obtain ⟨_, _, _, _, _, _, _, e, _⟩ := h; cases e), (fun A outer s H args us vs Q E _ _ _ _ h => by obtain ⟨_, _, _, _, _, _, _, e, _⟩ := h; cases e)⟩
end
def rsD : Rs → D
  | .v d => d
  | .f l => .lst l
def mCall (n : Nat) (m : MF) (fs : ML) : ME := fun r => (fs r).bind fun ds => if ds.length = n then (m (ds.map .v)).map fun p => rsD p.1 else none
section
variable {K : Fg}
theorem R.args {O : Addr → Prop} {H : Hp} {ds : List D} {vs : List V} (ol : OLst O H) (h : IsL K O H ds vs) : R K O H (ds.map .v) (vs.map some) := by
  have no : ∀ (i : Nat) (l : List D), ((ds.map Sl.v)[i]?).bind Sl.own ≠ some l := fun i l e => by
    rw [List.getElem?_map] at e
    cases e1 : ds[i]? with
    | none => rw [e1] at e; cases e
    | some x => rw [e1] at e; cases e
  refine ⟨by simp [h.length], fun i d e => ?_, fun i l e => absurd e (no i l), fun i j a l m e1 => absurd e1 (no i l), ol, fun i l a e => absurd (show ((ds.map Sl.v)[i]?).bind Sl.own = some l by rcases e with e | e <;> rw [e] <;> rfl) (no i l), fun i l a e => absurd (show ((ds.map Sl.v)[i]?).bind Sl.own = some l by rw [e]; rfl) (no i l)⟩
  rw [List.getElem?_map] at e
  cases e1 : ds[i]? with
  | none => rw [e1] at e; cases e
  | some x =>
    rw [e1] at e; cases e
    obtain ⟨v, e2, q⟩ := h.get e1
    exact ⟨v, by rw [List.getElem?_map, e2]; rfl, Is.mono (Same.kp (Same.refl H) _) ol (fun a z _ => z.elim id fun ⟨j, l, ej, _⟩ => absurd ej (no j l)) _ _ q⟩
theorem own_none {ds : List D} {σ : St} {a : Addr} : ¬ MutAt (ds.map .v) σ a := fun ⟨i, l, e, _⟩ => by
  rw [List.getElem?_map] at e
  cases e1 : ds[i]? with
  | none => rw [e1] at e; cases e
  | some x => rw [e1] at e; cases e
theorem PostF.same {O0 : Addr → Prop} {H H' : Hp} {ds : List D} {vs : List V} {as' : List Sl} (h : PostF K O0 H (ds.map .v) vs H' as') : Same H H' := fun b o e => h.keep b o e own_none
end
section
variable {X : Cx} {k n : Nat} {f : Addr} {fd : FuncData} {ps : List Str} {m : MF} {x : Str} {p pos : Pos} {e : Expr} {es : List Expr} {fs : ML}
theorem sp_pure {O0 : Addr → Prop} {r : En} {σ : St} {H H1 : Hp} {ds : List D} {vs : List V} {rs : Rs} {as' : List Sl} {Q : VK} {E : XK} (hR : R X.K O0 H r σ) (s1 : Same H H1) (il : IsL X.K (Ow O0 r σ) H1 ds vs) (hl : ds.length = n) (em : m (ds.map .v) = some (rs, as'))
    (q : RsP X.K (Ow O0 r σ) H1 (ds.map .v) vs as' Q rs) : spD X.K n m (vs ++ []) H1 Q E := by
  rw [List.append_nil]
  refine ⟨Ow O0 r σ, ds.map .v, rs, as', by simpa using hl, R.args (hR.same s1).ol il, fun i l => ?_, em, q⟩
  rw [List.getElem?_map]
  cases e1 : ds[i]? with
  | none => exact ⟨(fun z => by cases z), (fun z => by cases z)⟩
  | some y => exact ⟨(fun z => by cases z), (fun z => by cases z)⟩
theorem de_call (F : FnOk X.prog X.w X.K X.mg X.base CX0 k f fd ps (spD X.K n m)) (hr : Room k X.A) (hg : Gl X x) (hm : X.mg x = some (.ref f)) (hk : PySem.W.keepIn X.K (.ref f) = true) (hb : Binds X.K fd ps []) (ha : DA X (e :: es) fs)
    (hdb : (x == ("__debug__" : Str)) = false := by decide) (he : starEach (e :: es) X.env = (false, eval e X.env) :: starEach es X.env := by rfl) (hpl : (backTo pos (starEach es X.env)).any (·.1) = false := by rfl) :
    DE X (.Call (.Name x p) (e :: es) [] pos) (mCall n m fs) := by
  refine PE.conseq (pe_call (E := fun _ _ _ => False) (dvs := []) F hr hg hm hk hb .nil pass0 ha hdb he hpl) fun σ H Q h => ?_
  obtain ⟨O0, r, d, hR, e, q⟩ := h
  obtain ⟨ds, e1, e2⟩ := bind_some e
  split at e2
  · rename_i hl
    obtain ⟨⟨rs, as'⟩, e3, rfl⟩ := map_some e2
    refine ⟨O0, r, ds, hR, e1, fun vs H1 s1 il => sp_pure hR s1 il hl e3 ?_⟩
    cases rs with
    | v d => exact fun v H2 pf iv => q v H2 (s1.trans pf.same) iv
    | f l =>
      refine fun a xs H2 pf na ea il2 => q _ H2 (s1.trans pf.same) ?_
      have R1 := hR.same s1
      have olp : OLst (fun b => Ow O0 r σ b ∨ b = a) H2 := fun b z => z.elim (fun z => (R1.same pf.same).ol b z) fun z => by subst z; exact ⟨xs, ea⟩
      show Is X.K (Ow O0 r σ) H2 (.lst l) (.ref a)
      rw [Is.lst_iff]
      exact ⟨a, xs, rfl, .inl ⟨R1.nofresh na, .inl ea⟩, IsL.mono (Same.kp (Same.refl H2) _) olp (fun _ z _ => .inl z) _ _ il2⟩
  · cases e2
end
section
variable {X : Cx} {tg l : Expr} {f : ME} {p pos : Pos}
def itemsD : D → Option (List D)
  | .lst l => some l
  | .tup l => some l
  | _ => none
def mIt (f : ME) : ML := fun r => (f r).bind itemsD
theorem get_of_lt {l : List D} {i : Nat} (h : i < l.length) : ∃ d, l[i]? = some d := ⟨l[i], by simp [h]⟩
theorem yl_list {K : Fg} {O M : Addr → Prop} (mo : ∀ a, M a → O a) {H : Hp} {a : Addr} {xs : List V} {ds : List D} (ol : OLst O H) (rd : ∀ H1, Keep M H H1 → SqL K H1 a xs) (il : IsL K O H ds xs): Ylds K O M H (Itl K a) ds := by
  intro i H1 O' kp oo
  have kp' : Keep O H H1 := fun b o e n => kp b o e fun z => n (mo b z)
  have rd1 : SqL K H1 a xs := rd H1 kp
  refine ⟨fun hi => ⟨?_, fun x H' y => ?_⟩, fun hi => ⟨xs, rd1, by rw [← il.length]; exact Nat.le_of_eq hi.symm⟩⟩
  · obtain ⟨d, e⟩ := get_of_lt hi
    obtain ⟨v, e1, _⟩ := il.get e
    exact ⟨xs, v, rd1, e1⟩
  · obtain ⟨rfl, y⟩ := y
    refine ⟨Same.refl _, fun d e => ?_⟩
    obtain ⟨v, e1, q⟩ := il.get e
    have := y xs rd1
    rw [e1] at this; cases this
    exact Is.mono kp' ol oo _ _ q
theorem yl_tup {K : Fg} {O M : Addr → Prop} (mo : ∀ a, M a → O a) {H : Hp} {a : Addr} {xs : List V} {ds : List D} (ol : OLst O H) (rd : SqT K H a xs) (il : IsL K O H ds xs) : Ylds K O M H (Itt K a) ds := by
  intro i H1 O' kp oo
  have kp' : Keep O H H1 := fun b o e n => kp b o e fun z => n (mo b z)
  have rd1 : SqT K H1 a xs := SqT.keep kp' ol rd
  refine ⟨fun hi => ⟨?_, fun x H' y => ?_⟩, fun hi => ⟨xs, rd1, by rw [← il.length]; exact Nat.le_of_eq hi.symm⟩⟩
  · obtain ⟨d, e⟩ := get_of_lt hi
    obtain ⟨v, e1, _⟩ := il.get e
    exact ⟨xs, v, rd1, e1⟩
  · obtain ⟨rfl, y⟩ := y
    refine ⟨Same.refl _, fun d e => ?_⟩
    obtain ⟨v, e1, q⟩ := il.get e
    have := y xs rd1
    rw [e1] at this; cases this
    exact Is.mono kp' ol oo _ _ q
theorem pi_seq {tl : TE} (hl : PE X l tl) : PI X tg l (fun σ H Rr => tl σ H fun x H1 => ∃ a, x = .ref a ∧ (((∃ xs, SqL X.K H1 a xs) ∧ Rr (Itl X.K a) H1) ∨ ((∃ xs, SqT X.K H1 a xs) ∧ Rr (Itt X.K a) H1))) := by
  intro pins s σ H R I h
  refine thn (hl pins s σ H _ I h) fun v s1 ⟨x, H1, I1, r1, q1⟩ => ?_
  obtain ⟨a, e, q⟩ := q1
  subst e
  cases r1
  rcases q with ⟨⟨xs, hq⟩, q⟩ | ⟨⟨xs, hq⟩, q⟩
  · obtain ⟨its, rv, p, hz⟩ := I1.list hq
    refine wpAny_pyIter_list p.isList ?_
    refine ⟨s1.heap.objs.size, [s1.heap.objs.size], _, _, H1, rfl, I1.kept (t' := s1.toks) fun b o e => Heap.get?_push_of_some _ e, turn_list a _, ⟨_, Heap.get?_push_size _ rfl, rfl, rfl⟩, fun b hb => ?_, q⟩
    have e : b = s1.heap.objs.size := by simpa using hb
    subst e
    exact I1.fpOk (Nat.le_refl _) (I1.hok.fresh (Nat.le_refl _))
  · obtain ⟨its, rv, p, hz⟩ := I1.tuple hq
    refine wpAny_pyIter_tuple (show s1.heap.IsTuple a its.toArray from p) ?_
    refine ⟨s1.heap.objs.size, [s1.heap.objs.size], _, _, H1, rfl, I1.kept (t' := s1.toks) fun b o e => Heap.get?_push_of_some _ e, turn_tuple a _, ⟨_, Heap.get?_push_size _ rfl, rfl, rfl⟩, fun b hb => ?_, q⟩
    have e : b = s1.heap.objs.size := by simpa using hb
    subst e
    exact I1.fpOk (Nat.le_refl _) (I1.hok.fresh (Nat.le_refl _))
theorem di_seq (hl : DE X l f) : DI X tg l (mIt f) := by
  refine PI.conseq (pi_seq hl) fun σ H Rr h => ?_
  obtain ⟨O0, r, ds, hR, e, q⟩ := h
  obtain ⟨d, e1, e2⟩ := bind_some e
  refine ⟨O0, r, d, hR, e1, fun v H1 s1 i1 => ?_⟩
  have ol := (hR.same s1).ol
  cases d with
  | lst l' =>
    cases e2
    rw [Is.lst_iff] at i1
    obtain ⟨a, xs, rfl, rd, il⟩ := i1
    exact ⟨a, rfl, .inl ⟨⟨xs, rd.sq⟩, q _ H1 s1 (yl_list (fun a z => .inr z.own) ol (fun H2 k2 => rd.imp (fun z => Rd.keep k2 (fun y => z.1 (.inr y.own)) z.2) id) il)⟩⟩
  | tup l' =>
    cases e2
    rw [Is.tup_iff] at i1
    obtain ⟨a, xs, rfl, rd, il⟩ := i1
    exact ⟨a, rfl, .inr ⟨⟨xs, rd⟩, q _ H1 s1 (yl_tup (fun a z => .inr z.own) ol rd il)⟩⟩
  | _ => cases e2
def rngD (lo : Int) (n : Nat) : List D := (List.range n).map fun i => .int (lo + (i : Nat))
theorem yl_rng {K : Fg} {O M : Addr → Prop} {H : Hp} (lo : Int) (n : Nat) : Ylds K O M H (Itr lo n) (rngD lo n) := by
  intro i H1 O' kp oo
  have hl : (rngD lo n).length = n := by simp [rngD]
  refine ⟨fun hi => ⟨by rw [hl] at hi; exact hi, fun x H' y => ?_⟩, fun hi => by rw [hl] at hi; exact Nat.le_of_eq hi.symm⟩
  obtain ⟨rfl, rfl⟩ := y
  refine ⟨Same.refl _, fun d e => ?_⟩
  rw [hl] at hi
  unfold rngD at e
  rw [List.getElem?_map, List.getElem?_range hi] at e
  cases e
  rw [Is.int_iff]
def intD : D → Option Int
  | .int i => some i
  | _ => none
def mRng1 (f : ME) : ML := fun r => (f r).bind fun d => (intD d).bind fun j => if -(2 ^ 62) ≤ j ∧ j < 2 ^ 62 then some (rngD 0 j.toNat) else none
theorem intD_some {d : D} {i : Int} (e : intD d = some i) : d = .int i := by
  cases d <;> first | cases e; rfl | cases e
theorem di_rng1 (hg : Gl X "range") (hm : X.mg "range" = none) (ha : DE X l f) (hs : starEach [l] X.env = [(false, eval l X.env)] := by rfl) : DI X tg (.Call (.Name "range" p) [l] [] pos) (mRng1 f) := by
  refine PI.conseq (pi_range1 hg hm (pa_cons ha pa_nil hs) hs) fun σ H Rr h => ?_
  obtain ⟨O0, r, ds, hR, e, q⟩ := h
  obtain ⟨d, e1, e2⟩ := bind_some e
  obtain ⟨j, e3, e4⟩ := bind_some e2
  cases intD_some e3
  split at e4
  · rename_i hj
    cases e4
    refine ⟨O0, r, _, hR, e1, fun v H1 s1 i1 => ?_⟩
    rw [Is.int_iff] at i1
    exact ⟨j, by rw [i1], hj.1, hj.2, q _ H1 s1 (yl_rng 0 _)⟩
  · cases e4
end
def clOf (env : Env) : List (Str × NameKind) → List (Str × Addr) → List (Str × Addr)
  | [], acc => acc
  | (n, k) :: r, acc => if k = .free then clOf env r ((n, (env.cells.lookup n).getD 0) :: acc) else clOf env r acc
theorem closure_eq {env : Env} : ∀ (names : List (Str × NameKind)) (acc : List (Str × Addr)), (∀ y ∈ names, y.2 = .free → ∃ c, env.cells.lookup y.1 = some c) →
    (forIn names acc (fun (x : Str × NameKind) (cs : List (Str × Addr)) => match x with
      | (name, kind) => if (kind == NameKind.free) = true then do let a ← cellOf env name; pure (ForInStep.yield ((name, a) :: cs)) else pure (ForInStep.yield cs)) : Sem (List (Str × Addr))) = pure (clOf env names acc)
  | [], acc, _ => rfl
  | (n, k) :: r, acc, h => by
    rw [List.forIn_cons]
    by_cases hk : k = .free
    · obtain ⟨c, hc⟩ := h (n, k) List.mem_cons_self hk
      have ih := closure_eq r ((n, c) :: acc) fun y hy => h y (List.mem_cons_of_mem _ hy)
      subst hk
      show ((do let a ← cellOf env n; pure (ForInStep.yield ((n, a) :: acc))) >>= _ : Sem _) = _
      unfold cellOf
      rw [hc]
      unfold clOf
      rw [if_pos rfl, hc]
      exact ih
    · have hb : (k == NameKind.free) = false := by simpa using hk
      have ih := closure_eq r acc fun y hy => h y (List.mem_cons_of_mem _ hy)
      unfold clOf
      rw [if_neg hk]
      simp only [hb]
      exact ih
theorem closureFor_eq {scope : Scope} {env : Env} (h : ∀ y ∈ scope.names, y.2 = .free → ∃ c, env.cells.lookup y.1 = some c) : closureFor scope env = pure (clOf env scope.names []) := by
  unfold closureFor
  have := closure_eq (env := env) scope.names [] h
  first
    | exact this
    | (simp only [bind_pure]; exact this)
    | (rw [← this]; rfl)
theorem clOf_sub {env : Env} {x : Str} {c : Addr} : ∀ (names : List (Str × NameKind)) (acc : List (Str × Addr)), (∀ y ∈ names, y.2 = .free → ∃ c, env.cells.lookup y.1 = some c) → (∀ c, acc.lookup x = some c → env.cells.lookup x = some c) →
    (clOf env names acc).lookup x = some c → env.cells.lookup x = some c
  | [], acc, _, ha, e => ha c e
  | (n, k) :: r, acc, h, ha, e => by
    unfold clOf at e
    split at e
    · rename_i hk
      refine clOf_sub r _ (fun y hy => h y (List.mem_cons_of_mem _ hy)) (fun c' e' => ?_) e
      rw [List.lookup_cons] at e'
      split at e'
      · rename_i hx
        have hx' : x = n := by simpa using hx
        subst hx'
        obtain ⟨c2, q⟩ := h (x, k) List.mem_cons_self hk
        rw [q] at e' ⊢
        simpa using e'
      · exact ha c' e'
    · exact clOf_sub r _ (fun y hy => h y (List.mem_cons_of_mem _ hy)) ha e
theorem clOf_acc {env : Env} {x : Str} : ∀ (names : List (Str × NameKind)) (acc : List (Str × Addr)), (∃ c, acc.lookup x = some c) → ∃ c, (clOf env names acc).lookup x = some c
  | [], acc, h => h
  | (n, k) :: r, acc, h => by
    unfold clOf
    split
    · refine clOf_acc r _ ?_
      rw [List.lookup_cons]
      split
      · exact ⟨_, rfl⟩
      · exact h
    · exact clOf_acc r _ h
theorem clOf_has {env : Env} {x : Str} : ∀ (names : List (Str × NameKind)) (acc : List (Str × Addr)), (x, NameKind.free) ∈ names → ∃ c, (clOf env names acc).lookup x = some c
  | [], _, h => nomatch h
  | (n, k) :: r, acc, h => by
    unfold clOf
    rcases List.mem_cons.mp h with z | z
    · cases z
      rw [if_pos rfl]
      refine clOf_acc r _ ?_
      rw [List.lookup_cons]
      simp
    · split
      · exact clOf_has r _ z
      · exact clOf_has r _ z
theorem relabel_inv {env : Env} : ∀ {names : List (Str × NameKind)} {x : Str} {k : NameKind}, (names.map fun (n, k) => if (k == NameKind.free && env.scope.kind == .function && env.kindOf n == some .cell) then (n, NameKind.cell) else (n, k)).lookup x = some k →
    ∃ k', names.lookup x = some k' ∧ (k = k' ∨ (k' = .free ∧ k = .cell))
  | [], _, _, h => by simp at h
  | (n, k0) :: r, x, k, h => by
    have h' : List.lookup x ((if (k0 == NameKind.free && env.scope.kind == .function && env.kindOf n == some .cell) = true then (n, NameKind.cell) else (n, k0)) :: (r.map fun (n, k) => if (k == NameKind.free && env.scope.kind == .function && env.kindOf n == some .cell) then (n, NameKind.cell) else (n, k))) = some k := h
    rw [List.lookup_cons]
    by_cases hc : (k0 == NameKind.free && env.scope.kind == .function && env.kindOf n == some .cell) = true
    · rw [if_pos hc, List.lookup_cons] at h'
      split at h'
      · rename_i hx
        cases h'
        refine ⟨k0, rfl, .inr ⟨?_, rfl⟩⟩
        simp only [Bool.and_eq_true, beq_iff_eq] at hc
        exact hc.1.1
      · rename_i hx
        exact relabel_inv h'
    · rw [if_neg hc, List.lookup_cons] at h'
      split at h'
      · rename_i hx
        cases h'
        exact ⟨k0, rfl, .inl rfl⟩
      · rename_i hx
        exact relabel_inv h'
theorem relabel_free {env : Env} : ∀ {names : List (Str × NameKind)} {x : Str}, names.lookup x = some .free →
    let l := (names.map fun (n, k) => if (k == NameKind.free && env.scope.kind == .function && env.kindOf n == some .cell) then (n, NameKind.cell) else (n, k)); l.lookup x = some .cell ∨ l.lookup x = some .free
  | [], _, h => by simp at h
  | (n, k0) :: r, x, h => by
    show List.lookup x ((if (k0 == NameKind.free && env.scope.kind == .function && env.kindOf n == some .cell) = true then (n, NameKind.cell) else (n, k0)) :: _) = _ ∨ List.lookup x ((if (k0 == NameKind.free && env.scope.kind == .function && env.kindOf n == some .cell) = true then (n, NameKind.cell) else (n, k0)) :: _) = _
    rw [List.lookup_cons] at h
    cases hx : x == n with
    | true =>
      rw [hx] at h
      cases h
      split
      · left; rw [List.lookup_cons, hx]
      · right; rw [List.lookup_cons, hx]
    | false =>
      rw [hx] at h
      have ih := relabel_free (env := env) h
      split
      · rw [List.lookup_cons, hx]; exact ih
      · rw [List.lookup_cons, hx]; exact ih
def cxC (X : Cx) (N' : List Str) (scope : Scope) (C : Addr) (fp : List Addr) (s : Shared) (H : Hp) : Cx where
  prog := X.prog
  w := X.w
  K := X.K
  mg := X.mg
  base := X.base
  A := X.A
  N := N'
  s₀ := s
  H₀ := H
  env := compEnvC scope (clOf X.env scope.names []) C X.env
  outer := X.stack
  stack := X.stack
  ex := fp
  fn := fun _ => false
  calm := X.calm
  pn := []
  xe := fun _ _ => False
structure CmpOk (X : Cx) (N' : List Str) (cap : List Nat) (scope : Scope) : Prop where
  kind : scope.kind = .function
  nc : ∀ y ∈ scope.names, y.2 ≠ .cell
  nm : ∀ y ∈ scope.names, y.2 = .local → scope.names.lookup y.1 = some .local
  fr : ∀ y ∈ scope.names, y.2 = .free → X.env.kindOf y.1 = some .cell ∨ X.env.kindOf y.1 = some .free
  capt : ∀ (i j : Nat), cap[i]? = some j → ∃ x, N'[i]? = some x ∧ X.N[j]? = some x ∧ scope.names.lookup x = some .free
  len : cap.length ≤ N'.length
def sigC (cap : List Nat) (n : Nat) (σ : St) : St := (cap.map fun j => (σ[j]?).getD none) ++ List.replicate (n - cap.length) none
section
variable {X : Cx} {pins : List (Addr × Obj)} {σ : St} {H : Hp} {s : Shared} {N' : List Str} {cap : List Nat} {scope : Scope} {fp : List Addr}
theorem CmpOk.hasc (o : CmpOk X N' cap scope) (ok : X.Ok) : ∀ y ∈ scope.names, y.2 = .free → ∃ c, X.env.cells.lookup y.1 = some c := fun y hy e => ok.has y.1 (o.fr y hy e)
theorem CmpOk.sub (o : CmpOk X N' cap scope) (ok : X.Ok) {x : Str} {c : Addr} (e : (clOf X.env scope.names []).lookup x = some c) : X.env.cells.lookup x = some c := clOf_sub scope.names [] (o.hasc ok) (fun _ z => by simp at z) e
theorem inv_comp (o : CmpOk X N' cap scope) (I : Inv X pins σ H s) (hfp : ∀ b ∈ fp, FpOk X pins H b) (hlt : ∀ b ∈ fp, b < s.heap.objs.size) {h' : Heap} {t' : Nat} (ns : h'.Ns s.heap.objs.size (fun _ => none)) (kp : ∀ b u, s.heap.get? b = some u → h'.get? b = some u) :
    Inv (cxC X N' scope s.heap.objs.size fp s H) [] (sigC cap N'.length σ) H { s with heap := h', toks := t' } := by
  have hf : H s.heap.objs.size = none := I.hok.fresh (Nat.le_refl _)
  have nofp : ∀ b ∈ fp, b ∉ frs X.stack := fun b hb z => by
    obtain ⟨f0, f1, f2, f3, f4, f5⟩ := hfp b hb
    rcases List.mem_cons.mp (I.stkSub b z) with q | q
    · exact f1 q
    · exact f2 q
  have ok' : (cxC X N' scope s.heap.objs.size fp s H).Ok := by
    refine ⟨I.ok.mod, o.kind, I.ok.glob, I.ok.blt, Nat.le_refl _, fun x y c e1 e2 => I.ok.inj x y c (o.sub I.ok e1) (o.sub I.ok e2), fun x hx => ?_, fun x c z => (by cases z), I.ok.hd, I.ok.frames, .inl rfl, fun b hb => ⟨Nat.ne_of_lt (hlt b hb), fun x c e => (hfp b hb).2.2.2.2.1 x c (o.sub I.ok e)⟩,
      fun b ob e => I.bs b ob e, Nat.le_trans I.ok.bsz I.sz, fun b ob e hb => ?_, nofp, I.stack, I.stkFree⟩
    · have key : scope.names.lookup x = some .free := by
        rcases hx with hx | hx
        · obtain ⟨k', e1, e2⟩ := relabel_inv (env := X.env) (names := scope.names) (x := x) (k := .cell) hx
          rcases e2 with e2 | e2
          · subst e2; exact absurd rfl (o.nc _ (PySem.mem_of_lookup e1))
          · rw [e2.1] at e1; exact e1
        · obtain ⟨k', e1, e2⟩ := relabel_inv (env := X.env) (names := scope.names) (x := x) (k := .free) hx
          rcases e2 with e2 | e2
          · subst e2; exact e1
          · exact absurd e2.2 (by decide)
      exact clOf_has scope.names [] (PySem.mem_of_lookup key)
    · rcases (hfp b hb).2.2.2.1 with z | z
      · exact I.ok.noex b ob e z
      · exact absurd (Nat.lt_of_lt_of_le (Nat.lt_of_lt_of_le (Heap.lt_size e) I.ok.bsz) z) (Nat.lt_irrefl _)
  refine ⟨ok', rfl, I.bare, Un.kept kp, ⟨fun _ => none, ns, fun i x v hN hs hv => ?_⟩, fun x c e => ?_, hf, fun x c e => I.freeC x c (o.sub I.ok e), fun p hp => ?_, I.hok.kept kp, ?_⟩
  · have hN : N'[i]? = some x := hN
    by_cases hi : i < cap.length
    · unfold sigC at hs
      rw [List.getElem?_append_left (by simpa using hi), List.getElem?_map] at hs
      obtain ⟨j, hj⟩ : ∃ j, cap[i]? = some j := ⟨cap[i], by simp [hi]⟩
      rw [hj] at hs
      have hs' : σ[j]? = some (some v) := by
        have hs'' : (σ[j]?).getD none = some v := Option.some.inj hs
        cases e : σ[j]? with
        | none => rw [e] at hs''; cases hs''
        | some y => rw [e] at hs''; have : y = some v := hs''; rw [this]
      obtain ⟨x', e1, e2, e3⟩ := o.capt i j hj
      rw [hN] at e1; cases e1
      have hk := o.fr (x, .free) (PySem.mem_of_lookup e3) rfl
      obtain ⟨m, hn, hl⟩ := I.loc
      have hvis : Vis X.env.scope x := hk.elim (fun z => .inr (.inl z)) fun z => .inr (.inr z)
      obtain ⟨u, r, lk⟩ := hl j x v e2 hs' hvis
      refine ⟨u, r, .inr ⟨relabel_free (env := X.env) e3, ?_⟩⟩
      rcases lk with ⟨z, _⟩ | ⟨_, c, hc, hcell⟩
      · have z' : X.env.kindOf x = some .local := z
        rw [z'] at hk
        rcases hk with hk | hk <;> cases hk
      · obtain ⟨c', hc'⟩ := clOf_has (env := X.env) scope.names [] (PySem.mem_of_lookup e3)
        have hcc := o.sub I.ok hc'
        rw [hc] at hcc; cases hcc
        obtain ⟨ob, q1, q2⟩ := hcell
        exact ⟨c, hc', ob, kp _ _ q1, q2⟩
    · unfold sigC at hs
      rw [List.getElem?_append_right (by simpa using Nat.le_of_not_lt hi), List.getElem?_replicate] at hs
      split at hs <;> cases hs
  · obtain ⟨v, ob, q1, q2⟩ := I.cell x c (o.sub I.ok e)
    exact ⟨v, ob, kp _ _ q1, q2⟩
  · exact absurd (show p ∈ ([] : List (Addr × Obj)) from hp) (by simp)
  · unfold sigC
    show _ = N'.length
    rw [List.length_append, List.length_map, List.length_replicate]
    have := o.len
    omega
theorem inv_comp_end {H2 : Hp} {σ2 : St} {s2 : Shared} {h' : Heap} (I : Inv X pins σ H s) (hfp : ∀ b ∈ fp, FpOk X pins H b) (J : Inv (cxC X N' scope s.heap.objs.size fp s H) [] σ2 H2 s2) (sb : Heap.SameBut s.heap.objs.size s2.heap h') : Inv X pins σ H2 { s2 with heap := h' } := by
  have hb : Un (frs X.stack) fp H H2 s.heap s2.heap := J.base
  have ne : ∀ b o, s.heap.get? b = some o → b ≠ s.heap.objs.size := fun b o e => Nat.ne_of_lt (Heap.lt_size e)
  have fr : H2 s.heap.objs.size = none := J.free
  refine I.call' (s' := { s2 with heap := h' }) (ch := fp) J.os ?_ ?_ J.bare fun b hb => ⟨(hfp b hb).2.2.2.1, (hfp b hb).2.1, (hfp b hb).2.2.2.2.1, (hfp b hb).2.2.2.2.2⟩
  · refine ⟨fun b o e n h1 h2 => ?_, fun b o e n h1 h2 => ?_, fun b o e n h2 => hb.free b o e n h2, fun b o e h2 => ?_, hb.tups, hb.frzs, hb.tbls⟩
    · exact sb.extBut b o (ne b o e) (hb.keep b o e n h1 h2)
    · obtain ⟨sl, q⟩ := hb.slot b o e n h1 h2
      exact ⟨sl, sb.extBut b _ (ne b o e) q⟩
    · obtain ⟨o', q⟩ := hb.there b o e h2
      exact ⟨o', sb.extBut b _ (ne b o e) q⟩
  · intro b u e
    have nb : ∀ c w, H2 c = some w → c ≠ s.heap.objs.size := fun c w q z => by rw [z, fr] at q; cases q
    refine (J.hok b u e).stay (fun c v hc q => sb.extBut c v ?_ q) (fun _ q => q) fun _ _ q => q
    rcases hc with z | z
    · rw [z]; exact nb b u e
    · exact nb c _ z
def tComp1 (tc : Option TT) (te : TE) (K1 : V → Hp → Prop) (K0 : Hp → Prop) : St → Hp → Prop := fun σ H => match tc with
  | none => te σ H K1
  | some c => c σ H fun b H1 => if b = true then te σ H1 K1 else K0 H1
def tComp (cap : List Nat) (n : Nat) (wi : TI) (g : TG) (tc : Option TT) (te : TE) : TE := fun σ H Q => wi σ H fun J H1 => ∀ p, H1 p = none → ∃ W : Nat → Nat → List V → St → Hp → Prop, (∃ m, W 0 m [] (sigC cap n σ) (upd H1 p (.lst []))) ∧ ∀ i m ys σ2 H2, W i m ys σ2 H2 → H2 p = some (.lst ys) ∧ ys.length < sizeLine ∧
  ((J.stop i H2 ∧ Q (.ref p) H2) ∨ (J.go i H2 ∧ ∀ x H3, J.yld i H2 x H3 → g x σ2 H3 fun σ4 H4 => tComp1 tc te (fun y H5 => H5 p = some (.lst ys) ∧ ∃ m', m' < m ∧ W (i + 1) m' (ys ++ [y]) σ4 (upd H5 p (.lst (ys ++ [y])))) (fun H5 => ∃ m', m' < m ∧ W (i + 1) m' ys σ4 H5) σ4 H4))
theorem compLoop_go {prog : Program} {w : World} {A : Around} {Z : Result → Shared → Prop} {t0 : Shared} {elt tgt src : Expr} {tests : List Expr} {scope : Scope} {pos : Pos} {it out : Value} {env : Env} (W : Nat → Shared → Prop)
    (each : ∀ k t, W k t → wpAny (model prog w) A (pyNext it) (fun got t1 => match got with
      | none => Z (.ok .next) t1
      | some y => wpAny (model prog w) A (letOwnedTupleGo tgt it y) (fun _ t2 => wpAny (model prog w) A (assign tgt env y) (fun _ t3 =>
          wpAny (model prog w) A (forIn tests true fun c b => if b = true then do let ok ← isTrue c env (eval c env); pure (ForInStep.yield ok) else pure (ForInStep.yield b)) (fun good t4 =>
            if good = true then wpAny (model prog w) A (eval elt env) (fun x t5 =>
              wpAny (model prog w) A (call (.builtin "list.append") [out, x]) (fun _ t6 => ∃ j, j < k ∧ W j t6) (fun _ _ => False) t5) (fun _ _ => False) t4
            else ∃ j, j < k ∧ W j t4) (fun _ _ => False) t3) (fun _ _ => False) t2) (fun _ _ => False) t1) (fun _ _ => False) t)
    (k : Nat) (h0 : W k t0) : codeAny (model prog w) A (.compLoop (.ListComp elt [⟨tgt, src, tests, 0⟩] scope pos) 0 it out env) Z t0 := by
  refine codeAny_loop rfl W (fun k t hW => ?_) k h0
  show wpAny _ A ((compTurn (.ListComp elt [⟨tgt, src, tests, 0⟩] scope pos) 0 it out env).onRaise (fun x => do noteFrame x env; theTreesLotGoes x)) _ _ t
  refine wpAny_noted ?_
  rw [compTurn_list]
  refine wpAny_bind (wpAny_standAt (wpAny_bind (wpAny_mono (each k t hW) (fun got t1 g1 => ?_) fun _ _ no => no.elim)))
  cases got with
  | none => exact wpAny_pure g1
  | some y =>
    refine wpAny_bind (wpAny_mono g1 (fun _ t2 g2 => wpAny_bind (wpAny_mono g2 (fun _ t3 g3 => wpAny_bind (wpAny_mono g3 (fun good t4 g4 => ?_) fun _ _ no => no.elim)) fun _ _ no => no.elim)) fun _ _ no => no.elim)
    cases good with
    | false => exact wpAny_pure ⟨rfl, g4⟩
    | true =>
      exact wpAny_bind (wpAny_bind (wpAny_mono g4 (fun x t5 g5 => wpAny_bind (wpAny_mono g5 (fun _ t6 g6 => wpAny_pure (wpAny_pure ⟨rfl, g6⟩)) fun _ _ no => no.elim)) fun _ _ no => no.elim))
theorem comp_core {elt tg iter : Expr} {ifs : List Expr} {pos : Pos} {g : TG} {tc : Option TT} {te : TE} {J : It} {it : Addr} {tn : Nat → Heap → Prop} {Q : VK} {RR : Value → Addr → Result → Shared → Prop} (hc : X.calm = true) (o : CmpOk X N' cap scope)
    (hg : ∀ C fp s H, PG (cxC X N' scope C fp s H) tg g) (ht : match (generalizing := false) tc with | none => ifs = [] | some c => ∃ e, ifs = [e] ∧ ∀ C fp s H, PT (cxC X N' scope C fp s H) e c) (he : ∀ C fp s H, PE (cxC X N' scope C fp s H) elt te)
    (I : Inv X pins σ H s) (T : Turn X.prog X.w X.K tg J fp it tn) (st : tn 0 s.heap) (hfp : ∀ b ∈ fp, FpOk X pins H b)
    (hw : ∀ p, H p = none → ∃ W : Nat → Nat → List V → St → Hp → Prop, (∃ m, W 0 m [] (sigC cap N'.length σ) (upd H p (.lst []))) ∧ ∀ i m ys σ2 H2, W i m ys σ2 H2 → H2 p = some (.lst ys) ∧ ys.length < sizeLine ∧
      ((J.stop i H2 ∧ Q (.ref p) H2) ∨ (J.go i H2 ∧ ∀ x H3, J.yld i H2 x H3 → g x σ2 H3 fun σ4 H4 => tComp1 tc te (fun y H5 => H5 p = some (.lst ys) ∧ ∃ m', m' < m ∧ W (i + 1) m' (ys ++ [y]) σ4 (upd H5 p (.lst (ys ++ [y])))) (fun H5 => ∃ m', m' < m ∧ W (i + 1) m' ys σ4 H5) σ4 H4)))
    (hRR : ∀ (p : Addr) (s3 s' : Shared) (H3 H2 : Hp) (σ2 : St), Inv X pins σ H3 s3 → (∀ b ∈ fp, FpOk X pins H3 b) → Inv (cxC X N' scope s3.heap.objs.size fp s3 H3) [] σ2 H2 s' → Q (.ref p) H2 → RR (.ref p) s3.heap.objs.size (.ok .next) s') :
    wpAny (model X.prog X.w) X.A (newList []) (fun acc s₃ => wpAny (model X.prog X.w) X.A (newFunctionEnv scope X.env.globals (clOf X.env scope.names []) [] X.env.qual none .none (some X.env)) (fun cenv s₄ =>
      codeAny (model X.prog X.w) X.A (.compStart (.ListComp elt [⟨tg, iter, ifs, 0⟩] scope pos) 0 (.ref it) acc { cenv with scope := relabel scope X.env }) (RR acc cenv.locals) s₄) X.xe s₃) X.xe s := by
  refine wpAny_newObj_type ?_
  obtain ⟨W, ⟨m0, w0⟩, turn⟩ := hw s.heap.objs.size (I.hok.fresh (Nat.le_refl _))
  have nfp : ∀ b ∈ fp, b < s.heap.objs.size := fun b hb => by
    obtain ⟨ob, e, _⟩ := T.obj 0 _ st b hb
    exact Heap.lt_size e
  have I3 := I.lnew (its := []) (ys := []) (t' := s.toks) .nil (Nat.zero_le _)
  generalize hs3 : ({ s with heap := s.heap.push { cls := .type "list", data := .seq ([] : List Value).toArray }, toks := s.toks } : Shared) = s3 at I3
  have hs3' : ({ s with heap := s.heap.push { cls := .type "list", dict := none, data := .seq ([] : List Value).toArray } } : Shared) = s3 := hs3
  have hf3 : ∀ b ∈ fp, FpOk X pins (upd H s.heap.objs.size (.lst [])) b := fun b hb => ⟨by rw [upd_ne (Nat.ne_of_lt (nfp b hb))]; exact (hfp b hb).1, (hfp b hb).2⟩
  have st3 : tn 0 s3.heap := T.keep 0 _ _ st fun b _ ob e => by rw [← hs3]; exact Heap.get?_push_of_some _ e
  have nfp3 : ∀ b ∈ fp, b < s3.heap.objs.size := fun b hb => by
    obtain ⟨ob, e, _⟩ := T.obj 0 _ st3 b hb
    exact Heap.lt_size e
  refine wpAny_newFunctionEnv o.nc (by intro y hy; simp at hy) (fun h₁ hns₁ hsb₁ => ?_) o.kind
  have old : ∀ b ob, s3.heap.get? b = some ob → h₁.get? b = some ob := fun b ob e => hsb₁.extBut b ob (Nat.ne_of_lt (Heap.lt_size e)) (Heap.get?_push_of_some _ e)
  have I4 := inv_comp (t' := s3.toks + ([] : List (Str × Value)).length) o I3 hf3 nfp3 (by simpa using hns₁) old
  have st4 : tn 0 h₁ := T.keep 0 _ _ st3 fun b _ ob e => old b ob e
  have fpC : ∀ H', (∀ b ∈ fp, H' b = none) → ∀ b ∈ fp, FpOk (cxC X N' scope s3.heap.objs.size fp s3 (upd H s.heap.objs.size (.lst []))) [] H' b := fun H' hn b hb => by
    refine ⟨hn b hb, Nat.ne_of_lt (nfp3 b hb), I4.ok.exfs b hb, .inl hb, (I4.ok.exf b hb).2, fun p hp => absurd (show p ∈ ([] : List (Addr × Obj)) from hp) (by simp)⟩
  have loop : codeAny (model X.prog X.w) X.A (.compLoop (.ListComp elt [⟨tg, iter, ifs, 0⟩] scope pos) 0 (.ref it) (.ref s.heap.objs.size) (compEnvC scope (clOf X.env scope.names []) s3.heap.objs.size X.env)) (RR (.ref s.heap.objs.size) s3.heap.objs.size) { s3 with heap := h₁, toks := s3.toks + ([] : List (Str × Value)).length } := by
    refine compLoop_go (fun n s' => ∃ i ys σ' H', Inv (cxC X N' scope s3.heap.objs.size fp s3 (upd H s.heap.objs.size (.lst []))) [] σ' H' s' ∧ tn i s'.heap ∧ (∀ b ∈ fp, H' b = none) ∧ W i n ys σ' H') ?_ m0 ⟨0, [], _, _, I4, st4, fun b hb => (hf3 b hb).1, w0⟩
    rintro n s5 ⟨i, ys, σ5, H5, I5, st5, fr5, w5⟩
    obtain ⟨hp5, hz5, br⟩ := turn i n ys σ5 H5 w5
    rcases br with ⟨stop, q⟩ | ⟨go, step⟩
    · refine thn (T.done (cxC X N' scope s3.heap.objs.size fp s3 (upd H s.heap.objs.size (.lst []))) rfl rfl rfl hc i [] s5 _ H5 (fun _ _ => False) I5 (fpC H5 fr5) st5 stop) fun r s6 ⟨hr, I6⟩ => ?_
      subst hr
      exact hRR _ s3 s6 _ H5 _ I3 hf3 I6 q
    · refine thn (T.item (cxC X N' scope s3.heap.objs.size fp s3 (upd H s.heap.objs.size (.lst []))) rfl rfl rfl hc i [] s5 _ H5 (fun _ _ => False) I5 (fpC H5 fr5) st5 go) fun r s6 ⟨u, hr, h6⟩ => ?_
      subst hr
      refine thn h6 fun _ s7 ⟨x, H7, I7, r7, y7, st7, fr7⟩ => ?_
      have I7' := I7.pinned (fpC H7 fr7) (T.obj _ _ st7)
      refine thn (hg _ _ _ _ _ s7 _ H7 x u _ I7' r7 (step x H7 y7)) fun _ s8 ⟨σ8, H8, I8, q8⟩ => ?_
      have again : ∀ {H9 : Hp} {σ9 : St} {s9 : Shared} {ys' : List V}, Inv (cxC X N' scope s3.heap.objs.size fp s3 (upd H s.heap.objs.size (.lst []))) ([] ++ pinsAt fp s7.heap) σ9 H9 s9 → (∃ m', m' < n ∧ W (i + 1) m' ys' σ9 H9) →
          ∃ m, m < n ∧ ∃ i ys σ' H', Inv (cxC X N' scope s3.heap.objs.size fp s3 (upd H s.heap.objs.size (.lst []))) [] σ' H' s9 ∧ tn i s9.heap ∧ (∀ b ∈ fp, H' b = none) ∧ W i m ys σ' H' := fun {H9 σ9 s9 ys'} I9 z => by
        obtain ⟨m', hm, w9⟩ := z
        refine ⟨m', hm, i + 1, ys', σ9, H9, I9.unpinned, T.keep _ _ _ st7 fun b hb ob e => (I9.pin (b, ob) (List.mem_append_right _ (List.mem_append_right _ (mem_pinsAt hb e)))).1, fun b hb => ?_, w9⟩
        obtain ⟨ob, e, d⟩ := T.obj _ _ st7 b hb
        exact (I9.pin (b, ob) (List.mem_append_right _ (List.mem_append_right _ (mem_pinsAt hb e)))).2.1
      have app : ∀ {s9 : Shared} {H9 : Hp} {y : V} {u9 : Value}, Inv (cxC X N' scope s3.heap.objs.size fp s3 (upd H s.heap.objs.size (.lst []))) ([] ++ pinsAt fp s7.heap) σ8 H9 s9 → RelV y u9 → (H9 s.heap.objs.size = some (.lst ys) ∧ ∃ m', m' < n ∧ W (i + 1) m' (ys ++ [y]) σ8 (upd H9 s.heap.objs.size (.lst (ys ++ [y])))) →
          wpAny (model X.prog X.w) X.A (call (.builtin "list.append") [.ref s.heap.objs.size, u9]) (fun _ s₅ => ∃ m, m < n ∧ ∃ i ys σ' H', Inv (cxC X N' scope s3.heap.objs.size fp s3 (upd H s.heap.objs.size (.lst []))) [] σ' H' s₅ ∧ tn i s₅.heap ∧ (∀ b ∈ fp, H' b = none) ∧ W i m ys σ' H') (fun _ _ => False) s9 := fun {s9 H9 y u9} I9 r9 z9 => by
        refine thn (mt_append (X := cxC X N' scope s3.heap.objs.size fp s3 (upd H s.heap.objs.size (.lst []))) _ s9 σ8 H9 (.ref s.heap.objs.size) [y] (.ref s.heap.objs.size) [u9] (fun _ H' => ∃ m', m' < n ∧ W (i + 1) m' (ys ++ [y]) σ8 H') I9 rfl (.cons r9 .nil) ⟨_, ys, y, rfl, rfl, z9.1, hz5, z9.2⟩) fun _ s10 ⟨_, H10, I10, _, z10⟩ => ?_
        exact again I10 z10
      cases tc with
      | none =>
        have hi : ifs = [] := ht
        subst hi
        refine wpAny_tests_nil ?_
        rw [if_pos rfl]
        exact thn (he _ _ _ _ _ s8 σ8 H8 _ I8 q8) fun u9 s9 ⟨y, H9, I9, r9, z9⟩ => app I9 r9 z9
      | some c =>
        obtain ⟨e, he1, hce⟩ := ht
        subst he1
        refine wpAny_tests_one (thn (hce _ _ _ _ _ s8 σ8 H8 _ I8 q8) fun b s9 ⟨H9, I9, q9⟩ => ?_)
        cases b with
        | false =>
          rw [if_neg Bool.false_ne_true] at q9 ⊢
          exact again I9 q9
        | true =>
          rw [if_pos rfl] at q9 ⊢
          exact thn (he _ _ _ _ _ s9 σ8 H9 _ I9 q9) fun u10 s10 ⟨y, H10, I10, r10, z10⟩ => app I10 r10 z10
  exact codeAny_compStart_list loop (T.self X.A 0 _ _ _ st4 loop)
end
section
variable {X : Cx} {N' : List Str} {cap : List Nat} {scope : Scope} {elt tg iter : Expr} {ifs : List Expr} {pos : Pos} {wi : TI} {g : TG} {tc : Option TT} {te : TE}
theorem pe_lcomp (hc : X.calm = true) (o : CmpOk X N' cap scope) (hi : PI X tg iter wi)
    (hg : ∀ C fp s H, PG (cxC X N' scope C fp s H) tg g) (ht : match (generalizing := false) tc with | none => ifs = [] | some c => ∃ e, ifs = [e] ∧ ∀ C fp s H, PT (cxC X N' scope C fp s H) e c) (he : ∀ C fp s H, PE (cxC X N' scope C fp s H) elt te)
    (hs : ∀ x, foldedSetIterable iter X.env x = pure x := by intro _; rfl) : PE X (.ListComp elt [⟨tg, iter, ifs, 0⟩] scope pos) (tComp cap N'.length wi g tc te) := by
  intro pins s σ H Q I h
  rw [eval_ListComp]
  refine wpAny_comprehension_free (use := none) rfl hs (closureFor_eq (o.hasc I.ok)) o.kind o.nm (thn (hi pins s σ H _ I h) fun xv s1 h1 => thn h1 fun itv s2 h2 => ?_)
  obtain ⟨it, fp, tn, J, H2, rfl, I2, T, st2, f2, hw⟩ := h2
  refine comp_core (Q := Q) hc o hg ht he I2 T st2 f2 hw ?_
  intro p s3 s' H3 H4 σ4 I3 f3 J4 q
  obtain ⟨m, hn, _⟩ := J4.loc
  exact ⟨m, hn, fun h' sb => ⟨.ref p, H4, inv_comp_end I3 f3 J4 sb, rfl, q⟩⟩
end
def addD : D → D → Option D
  | .int i, .int j => some (.int (i + j))
  | .str s, .str t => if s.length + t.length ≤ sizeLine then some (.str (s ++ t)) else none
  | .lst l, .lst m => if l.length + m.length ≤ sizeLine then some (.lst (l ++ m)) else none
  | .tup l, .tup m => if l.length + m.length ≤ sizeLine ∧ l.isEmpty = false ∧ m.isEmpty = false then some (.tup (l ++ m)) else none
  | _, _ => none
def subD : D → D → Option D
  | .int i, .int j => some (.int (i - j))
  | _, _ => none
def mulD : D → D → Option D
  | .int i, .int j => if (-(2 ^ 64) < i ∧ i < 2 ^ 64) ∨ (-(2 ^ 64) < j ∧ j < 2 ^ 64) then some (.int (i * j)) else none
  | _, _ => none
def fdivD : D → D → Option D
  | .int i, .int j => if 0 < j ∧ j < 1073741824 then some (.int (i / j)) else none
  | _, _ => none
def modD : D → D → Option D
  | .int i, .int j => if 0 < j then some (.int (i % j)) else none
  | _, _ => none
def powD : D → D → Option D
  | .int i, .int j => if 0 ≤ j ∧ j ≤ 1000000 ∧ i.natAbs < 2 ^ 64 then some (.int (i ^ j.toNat)) else none
  | _, _ => none
def negD : D → Option D
  | .int i => some (.int (-i))
  | _ => none
def eqS : D → D → Option Bool
  | .int i, .int j => some (decide (i = j))
  | .str s, .str t => some (decide (s = t))
  | .bl a, .bl b => some (decide (a = b))
  | .non, .non => some true
  | .non, .int _ => some false
  | .int _, .non => some false
  | .non, .str _ => some false
  | .str _, .non => some false
  | .int _, .str _ => some false
  | .str _, .int _ => some false
  | _, _ => none
def eqD (x y : D) : Option D := (eqS x y).map .bl
def neD (x y : D) : Option D := (eqS x y).map fun b => .bl !b
section
variable {X : Cx}
def rCatR (K : Fg) : R2 := fun x y H Q => ∃ l b xs zs, x = .ref l ∧ y = .ref b ∧ SqL K H l xs ∧ SqL K H b zs ∧ xs.length + zs.length ≤ sizeLine ∧ ∀ p, H p = none → Q (.ref p) (upd H p (.lst (xs ++ zs)))
theorem op_catR : OpR X (binaryOp .Add) (rCatR X.K) := by
  intro pins s σ H x y v u Q I rx ry h
  obtain ⟨l, b, xs, zs, rfl, rfl, hH, hB, hz, q⟩ := h
  cases rx
  cases ry
  obtain ⟨its, r, ⟨⟨cls, dd, data, sl⟩, n, e, hc, hd0, hd⟩, z⟩ := I.list hH
  obtain ⟨its2, r2, ⟨⟨cls2, dd2, data2, sl2⟩, n2, e2, hc2, hd02, hd2⟩, z2⟩ := I.list hB
  have hl := r.length
  have hl2 := r2.length
  cases (show cls = _ from hc); cases (show dd = _ from hd0); cases (show data = _ from hd)
  cases (show cls2 = _ from hc2); cases (show dd2 = _ from hd02); cases (show data2 = _ from hd2)
  refine concat_meets ⟨_, e, rfl⟩ ⟨_, e2, rfl⟩ noFill_list_add seq_list_add PySem.F.slot_list_add PySem.F.entry_list_add (PySem.F.args_list_add_2 _ _) (list_addW l b its.toArray its2.toArray n n2 none none sl sl2 (by rw [List.size_toArray, List.size_toArray]; omega)) ⟨e, e2, ?_⟩
  have ea : its.toArray ++ its2.toArray = (its ++ its2).toArray := by simp
  rw [ea]
  exact ⟨.ref _, _, I.lnew (t' := s.toks) (r.append r2) (by rw [List.length_append]; omega), rfl, q _ I.fresh⟩
def rPlus (K : Fg) : R2 := fun x y H Q => rI0 (fun i j => .int (i + j)) x y H Q ∨ (∃ i j, x = .str i ∧ y = .str j ∧ i.length + j.length ≤ sizeLine ∧ Q (.str (i ++ j)) H) ∨ rCatR K x y H Q ∨ rCatT K x y H Q
theorem op_plus : OpR X (binaryOp .Add) (rPlus X.K) := op_add.or (op_add_str.or (op_catR.or op_catT))
theorem str_app (s t : List Nat) : ((⟨s.toArray⟩ : Str) ++ (⟨t.toArray⟩ : Str)) = (⟨(s ++ t).toArray⟩ : Str) := by
  show (⟨s.toArray ++ t.toArray⟩ : Str) = _
  simp
theorem str_len (s : List Nat) : (⟨s.toArray⟩ : Str).length = s.length := by simp [Str.length]
theorem od_plus {K : Fg} : OpD K (rPlus K) addD := by
  intro O H dx dy d vx vy Q ol ix iy e q
  cases dx <;> cases dy <;> first | (simp only [addD, reduceCtorEq] at e; done) | skip
  · simp only [addD, Option.some.injEq] at e
    subst e
    rw [Is.int_iff] at ix iy
    exact .inl ⟨_, _, ix, iy, q _ H (Same.refl H) (by rw [Is.int_iff])⟩
  · rename_i s t
    simp only [addD] at e
    split at e
    · rename_i hl
      cases e
      rw [Is.str_iff] at ix iy
      refine .inr (.inl ⟨_, _, ix, iy, by rw [str_len, str_len]; exact hl, q _ H (Same.refl H) ?_⟩)
      rw [Is.str_iff, str_app]
    · cases e
  · rename_i l m
    simp only [addD] at e
    split at e
    · rename_i hl
      cases e
      rw [Is.tup_iff] at ix iy
      obtain ⟨a, xs, rfl, hs, il⟩ := ix
      obtain ⟨b, ys, rfl, hs2, il2⟩ := iy
      have e1 := il.length
      have e2 := il2.length
      refine .inr (.inr (.inr ⟨a, b, xs, ys, rfl, rfl, hs, hs2, ?_, by omega, fun z => ?_, fun _ p hp => q _ _ (same_upd hp) ?_⟩))
      · rintro rfl
        have : l = [] := by simpa using e1
        subst this
        simp at hl
      · subst z
        have : m = [] := by simpa using e2
        subst this
        simp at hl
      · rw [Is.tup_iff]
        exact ⟨p, _, rfl, SqT.of upd_same, (il.append il2).same (same_upd hp) ol⟩
    · cases e
  · rename_i l m
    simp only [addD] at e
    split at e
    · rename_i hl
      cases e
      rw [Is.lst_iff] at ix iy
      obtain ⟨a, xs, rfl, hs, il⟩ := ix
      obtain ⟨b, ys, rfl, hs2, il2⟩ := iy
      have e1 := il.length
      have e2 := il2.length
      refine .inr (.inr (.inl ⟨a, b, xs, ys, rfl, rfl, hs.sq, hs2.sq, by omega, fun p hp => q _ _ (same_upd hp) ?_⟩))
      rw [Is.lst_iff]
      refine ⟨p, _, rfl, .inl ⟨fun z => ?_, .inl upd_same⟩, (il.append il2).same (same_upd hp) ol⟩
      obtain ⟨zs, ez⟩ := ol p z
      rw [hp] at ez; cases ez
    · cases e
theorem od_I {K : Fg} {C : Int → Int → Prop} {g : Int → Int → V} {m : D → D → Option D} (h : ∀ dx dy d, m dx dy = some d → ∃ i j, dx = .int i ∧ dy = .int j ∧ C i j ∧ ∀ O H, Is K O H d (g i j)) : OpD K (rI C g) m := by
  intro O H dx dy d vx vy Q ol ix iy e q
  obtain ⟨i, j, rfl, rfl, hc, hd⟩ := h dx dy d e
  rw [Is.int_iff] at ix iy
  exact ⟨i, j, ix, iy, hc, q _ H (Same.refl H) (hd O H)⟩
theorem od_I0 {K : Fg} {g : Int → Int → V} {m : D → D → Option D} (h : ∀ dx dy d, m dx dy = some d → ∃ i j, dx = .int i ∧ dy = .int j ∧ ∀ O H, Is K O H d (g i j)) : OpD K (rI0 g) m := by
  intro O H dx dy d vx vy Q ol ix iy e q
  obtain ⟨i, j, rfl, rfl, hd⟩ := h dx dy d e
  rw [Is.int_iff] at ix iy
  exact ⟨i, j, ix, iy, q _ H (Same.refl H) (hd O H)⟩
theorem od_sub {K : Fg} : OpD K (rI0 fun i j => .int (i - j)) subD := od_I0 fun dx dy d e => by
  cases dx <;> cases dy <;> first | (simp only [subD, reduceCtorEq] at e; done) | skip
  simp only [subD, Option.some.injEq] at e
  subst e
  exact ⟨_, _, rfl, rfl, fun O H => by rw [Is.int_iff]⟩
theorem od_mul {K : Fg} : OpD K (rI CMul fun i j => .int (i * j)) mulD := od_I fun dx dy d e => by
  cases dx <;> cases dy <;> first | (simp only [mulD, reduceCtorEq] at e; done) | skip
  simp only [mulD] at e
  split at e
  · rename_i hc; cases e; exact ⟨_, _, rfl, rfl, hc, fun O H => by rw [Is.int_iff]⟩
  · cases e
theorem od_fdiv {K : Fg} : OpD K (rI CDiv fun i j => .int (i / j)) fdivD := od_I fun dx dy d e => by
  cases dx <;> cases dy <;> first | (simp only [fdivD, reduceCtorEq] at e; done) | skip
  simp only [fdivD] at e
  split at e
  · rename_i hc; cases e; exact ⟨_, _, rfl, rfl, hc, fun O H => by rw [Is.int_iff]⟩
  · cases e
theorem od_mod {K : Fg} : OpD K (rI (fun _ j => 0 < j) fun i j => .int (i % j)) modD := od_I fun dx dy d e => by
  cases dx <;> cases dy <;> first | (simp only [modD, reduceCtorEq] at e; done) | skip
  simp only [modD] at e
  split at e
  · rename_i hc; cases e; exact ⟨_, _, rfl, rfl, hc, fun O H => by rw [Is.int_iff]⟩
  · cases e
theorem od_pow {K : Fg} : OpD K (rI CPow fun i j => .int (i ^ j.toNat)) powD := od_I fun dx dy d e => by
  cases dx <;> cases dy <;> first | (simp only [powD, reduceCtorEq] at e; done) | skip
  simp only [powD] at e
  split at e
  · rename_i hc; cases e; exact ⟨_, _, rfl, rfl, hc, fun O H => by rw [Is.int_iff]⟩
  · cases e
theorem eqS_ok {K : Fg} {O : Addr → Prop} {H : Hp} {dx dy : D} {vx vy : V} {b : Bool} (ix : Is K O H dx vx) (iy : Is K O H dy vy) (e : eqS dx dy = some b) : scal vx vy = true ∧ decide (vx = vy) = b := by
  cases dx <;> cases dy <;> first | (simp only [eqS, reduceCtorEq] at e; done) | skip
  all_goals simp only [eqS, Option.some.injEq] at e
  all_goals subst e
  all_goals first | rw [Is.int_iff] at ix | rw [Is.str_iff] at ix | rw [Is.bl_iff] at ix | rw [Is.non_iff] at ix
  all_goals first | rw [Is.int_iff] at iy | rw [Is.str_iff] at iy | rw [Is.bl_iff] at iy | rw [Is.non_iff] at iy
  all_goals subst ix iy
  all_goals refine ⟨rfl, ?_⟩
  all_goals simp
theorem od_eq {K : Fg} : OpD K rEq eqD := by
  intro O H dx dy d vx vy Q ol ix iy e q
  obtain ⟨b, e1, rfl⟩ := map_some e
  obtain ⟨h1, h2⟩ := eqS_ok ix iy e1
  exact ⟨h1, q _ H (Same.refl H) (by rw [Is.bl_iff, h2])⟩
theorem od_ne {K : Fg} : OpD K rNe neD := by
  intro O H dx dy d vx vy Q ol ix iy e q
  obtain ⟨b, e1, rfl⟩ := map_some e
  obtain ⟨h1, h2⟩ := eqS_ok ix iy e1
  exact ⟨h1, q _ H (Same.refl H) (by rw [Is.bl_iff, h2])⟩
def flatD : D → Bool
  | .int _ => true
  | .str _ => true
  | _ => false
def eqF : D → D → Bool
  | .int i, .int j => decide (i = j)
  | .str s, .str t => decide (s = t)
  | _, _ => false
theorem flat_ok {K : Fg} {O : Addr → Prop} {H : Hp} {d : D} {v : V} (h : Is K O H d v) (f : flatD d = true) : flatV v = true := by
  cases d <;> first | (cases f; done) | skip
  · rw [Is.int_iff] at h; subst h; rfl
  · rw [Is.str_iff] at h; subst h; rfl
theorem eqF_ok {K : Fg} {O : Addr → Prop} {H : Hp} {d e : D} {v u : V} (h : Is K O H d v) (f : flatD d = true) (h' : Is K O H e u) (f' : flatD e = true) : eqV v u = eqF d e := by
  cases d <;> first | (cases f; done) | skip
  all_goals cases e <;> first | (cases f'; done) | skip
  all_goals first | rw [Is.int_iff] at h | rw [Is.str_iff] at h
  all_goals first | rw [Is.int_iff] at h' | rw [Is.str_iff] at h'
  all_goals subst h h'
  · simp [eqV, eqF]
    rw [Bool.beq_eq_decide_eq]
  · rfl
  · rfl
  · rename_i s t
    simp only [eqV, eqF]
    by_cases z : s = t
    · subst z; simp
    · rw [decide_eq_false z, beq_eq_false_iff_ne]
      intro z'
      have : s.toArray = t.toArray := by injection z'
      exact z (by simpa using this)
end
def ixD : D → D → Option D
  | .lst l, .int i => atI l i
  | .tup l, .int i => atI l i
  | .str s, .int i => if s.length ≤ sizeLine then (atI s i).map fun c => .str [c] else none
  | _, _ => none
theorem atI_len {α β : Type} {l : List α} {m : List β} {i : Int} {x : α} (hl : l.length = m.length) (e : atI l i = some x) : ∃ j : Nat, l[j]? = some x ∧ ∀ y, m[j]? = some y → atI m i = some y := by
  unfold atI at e ⊢
  obtain ⟨j, e1, e2⟩ := bind_some e
  exact ⟨j, e2, fun y ey => by rw [← hl, e1]; exact ey⟩
def mIxB (fl : ML) (g : ME) : ME := fun r => (fl r).bind fun l => (g r).bind fun d => (intD d).bind fun i => atI l i
def mLenB (fl : ML) : ME := fun r => (fl r).map fun l => .int l.length
section
variable {X : Cx} {pos : Pos} {a b : Expr} {f g : ME}
theorem od_ix {K : Fg} : OpD K (rIx K) ixD := by
  intro O H dx dy d vx vy Q ol ix iy e q
  cases dx <;> cases dy <;> first | (simp only [ixD, reduceCtorEq] at e; done) | skip
  · rename_i s i
    simp only [ixD] at e
    split at e
    · rename_i hl
      obtain ⟨c, e1, rfl⟩ := map_some e
      rw [Is.str_iff] at ix
      rw [Is.int_iff] at iy
      exact .inr (.inr ⟨_, i, c, ix, iy, by rw [str_len]; exact hl, by simpa using e1, q _ H (Same.refl H) (by rw [Is.str_iff])⟩)
    · cases e
  · rename_i l i
    simp only [ixD] at e
    rw [Is.tup_iff] at ix
    rw [Is.int_iff] at iy
    obtain ⟨p, xs, rfl, hs, il⟩ := ix
    obtain ⟨j, e1, e2⟩ := atI_len il.length e
    obtain ⟨v, e3, iv⟩ := il.get e1
    exact .inr (.inl ⟨p, xs, i, v, rfl, iy, hs, e2 v e3, q _ H (Same.refl H) iv⟩)
  · rename_i l i
    simp only [ixD] at e
    rw [Is.lst_iff] at ix
    rw [Is.int_iff] at iy
    obtain ⟨p, xs, rfl, hs, il⟩ := ix
    obtain ⟨j, e1, e2⟩ := atI_len il.length e
    obtain ⟨v, e3, iv⟩ := il.get e1
    exact .inl ⟨p, xs, i, v, rfl, iy, hs.sq, e2 v e3, q _ H (Same.refl H) iv⟩
theorem de_ix (ha : DE X a f) (hb : DE X b g) (hs : PlainIx b := by intro _ _; rfl) : DE X (.Subscript a b pos) (mBin ixD f g) :=
  PE.conseq (pe_ix ix_seq ha hb hs) fun σ H Q h => two (ta := lE X.K f) (tb := lE X.K g) od_ix h
theorem de_ixB {fl : ML} (ha : DB X a fl) (hb : DE X b g) (hs : PlainIx b := by intro _ _; rfl) : DE X (.Subscript a b pos) (mIxB fl g) := by
  refine PE.conseq (pe_ix ix_list ha hb hs) fun σ H Q h => ?_
  obtain ⟨O0, r, d, hR, e, q⟩ := h
  obtain ⟨l, e1, e⟩ := bind_some e
  obtain ⟨d', e2, e⟩ := bind_some e
  obtain ⟨i, e3, e⟩ := bind_some e
  cases intD_some e3
  refine ⟨O0, r, l, hR, e1, fun p xs H1 s1 rd il => ⟨O0, r, _, hR.same s1, e2, fun v2 H2 s2 i2 => ?_⟩⟩
  rw [Is.int_iff] at i2
  obtain ⟨j, e4, e5⟩ := atI_len il.length e
  obtain ⟨v, e6, iv⟩ := il.get e4
  exact ⟨p, xs, i, v, rfl, i2, s2.seq rd, e5 v e6, q v H2 (s1.trans s2) (iv.same s2 (hR.same s1).ol)⟩
def lenD : D → Option D
  | .lst l => some (.int l.length)
  | .tup l => some (.int l.length)
  | .str s => if s.length ≤ sizeLine then some (.int s.length) else none
  | _ => none
theorem call_lenA : CallR X (.builtin "len") (fun xs H Q => (∃ p ys, xs = [.ref p] ∧ (SqL X.K H p ys ∨ SqT X.K H p ys) ∧ Q (.int ys.length) H) ∨ (∃ z, xs = [.str z] ∧ z.length ≤ sizeLine ∧ Q (.int z.length) H)) := call_len_seq.or call_len_str
theorem lenD_ok {K : Fg} {O : Addr → Prop} {H : Hp} {x d : D} {v : V} {Q : VK} (i1 : Is K O H x v) (e : lenD x = some d) (q : ∀ v, Is K O H d v → Q v H) :
    (∃ p ys, [v] = [.ref p] ∧ (SqL K H p ys ∨ SqT K H p ys) ∧ Q (.int ys.length) H) ∨ (∃ z, [v] = [.str z] ∧ z.length ≤ sizeLine ∧ Q (.int z.length) H) := by
  cases x <;> first | (simp only [lenD, reduceCtorEq] at e; done) | skip
  · simp only [lenD] at e
    split at e
    · rename_i hl
      cases e
      rw [Is.str_iff] at i1
      subst i1
      exact .inr ⟨_, rfl, by rw [str_len]; exact hl, q _ (by rw [Is.int_iff, str_len])⟩
    · cases e
  · simp only [lenD, Option.some.injEq] at e
    subst e
    rw [Is.tup_iff] at i1
    obtain ⟨p, ys, rfl, hs, il⟩ := i1
    exact .inl ⟨p, ys, rfl, .inr hs, q _ (by rw [Is.int_iff, il.length])⟩
  · simp only [lenD, Option.some.injEq] at e
    subst e
    rw [Is.lst_iff] at i1
    obtain ⟨p, ys, rfl, hs, il⟩ := i1
    exact .inl ⟨p, ys, rfl, .inl hs.sq, q _ (by rw [Is.int_iff, il.length])⟩
theorem de_len {p' : Pos} (hg : Gl X "len") (hm : X.mg "len" = none) (ha : DE X a f) (hs : starEach [a] X.env = (false, eval a X.env) :: starEach [] X.env := by rfl) : DE X (.Call (.Name "len" p') [a] [] pos) (mUn lenD f) := by
  refine PE.conseq (pe_callB call_lenA hg hm PySem.boot_len (pa_cons ha pa_nil hs) (he := hs)) fun σ H Q h => ?_
  obtain ⟨O0, r, d, hR, e, q⟩ := h
  obtain ⟨x, e1, e2⟩ := bind_some e
  exact ⟨O0, r, x, hR, e1, fun v H1 s1 i1 => lenD_ok i1 e2 fun v' iv => q v' H1 s1 iv⟩
theorem de_lenB {p' : Pos} {fl : ML} (hg : Gl X "len") (hm : X.mg "len" = none) (ha : DB X a fl) (hs : starEach [a] X.env = (false, eval a X.env) :: starEach [] X.env := by rfl) : DE X (.Call (.Name "len" p') [a] [] pos) (mLenB fl) := by
  refine PE.conseq (pe_callB call_lenA hg hm PySem.boot_len (pa_cons ha pa_nil hs) (he := hs)) fun σ H Q h => ?_
  obtain ⟨O0, r, d, hR, e, q⟩ := h
  obtain ⟨l, e1, rfl⟩ := map_some e
  exact ⟨O0, r, l, hR, e1, fun p xs H1 s1 rd il => .inl ⟨p, xs, rfl, .inl rd, q _ H1 s1 (by rw [Is.int_iff, il.length])⟩⟩
def tyN : D → Option String
  | .non => some "NoneType"
  | .bl _ => some "bool"
  | .int _ => some "int"
  | .str _ => some "str"
  | .tup _ => some "tuple"
  | .lst _ => some "list"
  | _ => none
def subN : List (String × String × Bool) := [("bool", "int", true), ("NoneType", "int", false), ("NoneType", "str", false), ("NoneType", "bool", false), ("NoneType", "tuple", false), ("NoneType", "list", false),
  ("bool", "str", false), ("bool", "tuple", false), ("bool", "list", false), ("int", "bool", false), ("int", "str", false), ("int", "tuple", false), ("int", "list", false),
  ("str", "int", false), ("str", "bool", false), ("str", "tuple", false), ("str", "list", false), ("tuple", "int", false), ("tuple", "bool", false), ("tuple", "str", false), ("tuple", "list", false),
  ("list", "int", false), ("list", "bool", false), ("list", "str", false), ("list", "tuple", false)]
def instN (t T : String) : Option Bool := if t = T then some true else (subN.find? fun x => x.1 == t && x.2.1 == T).map (·.2.2)
def instD (T : String) (d : D) : Option D := (tyN d).bind fun t => (instN t T).map .bl
theorem kit_ok (K : Fg) {t T : String} {b : Bool} (e : instN t T = some b) : PySem.W.kitOne K (.type t) (.type T) = some b := by
  unfold instN at e
  split at e
  · rename_i h; subst h; cases e; unfold PySem.W.kitOne; rw [if_pos (by simp)]
  · obtain ⟨⟨x, y, c⟩, e1, e2⟩ := map_some e
    have hm := List.mem_of_find?_eq_some e1
    have hp := List.find?_some e1
    simp only [Bool.and_eq_true, beq_iff_eq] at hp
    obtain ⟨rfl, rfl⟩ := hp
    subst e2
    unfold subN at hm
    simp only [List.mem_cons, List.not_mem_nil, or_false, Prod.mk.injEq] at hm
    rcases hm with ⟨rfl, rfl, rfl⟩ | ⟨rfl, rfl, rfl⟩ | ⟨rfl, rfl, rfl⟩ | ⟨rfl, rfl, rfl⟩ | ⟨rfl, rfl, rfl⟩ | ⟨rfl, rfl, rfl⟩ | ⟨rfl, rfl, rfl⟩ | ⟨rfl, rfl, rfl⟩ | ⟨rfl, rfl, rfl⟩ | ⟨rfl, rfl, rfl⟩ | ⟨rfl, rfl, rfl⟩ | ⟨rfl, rfl, rfl⟩ | ⟨rfl, rfl, rfl⟩ | ⟨rfl, rfl, rfl⟩ | ⟨rfl, rfl, rfl⟩ | ⟨rfl, rfl, rfl⟩ | ⟨rfl, rfl, rfl⟩ | ⟨rfl, rfl, rfl⟩ | ⟨rfl, rfl, rfl⟩ | ⟨rfl, rfl, rfl⟩ | ⟨rfl, rfl, rfl⟩ | ⟨rfl, rfl, rfl⟩ | ⟨rfl, rfl, rfl⟩ | ⟨rfl, rfl, rfl⟩ | ⟨rfl, rfl, rfl⟩ <;> kernel_rfl
def TyA (K : Fg) (H : Hp) (x : V) (t : String) : Prop := match x with
  | .non => t = "NoneType"
  | .bl _ => t = "bool"
  | .int _ => t = "int"
  | .str _ => t = "str"
  | .ref a => (t = "list" ∧ ∃ xs, SqL K H a xs) ∨ (t = "tuple" ∧ ∃ xs, SqT K H a xs)
  | _ => False
theorem call_isinst : CallR X (.builtin "isinstance") (fun xs H Q => ∃ x t T b, xs = [x, .ty T] ∧ TyA X.K H x t ∧ instN t T = some b ∧ Q (.bl b) H) := by
  intro pins s σ H xs us Q I r h
  obtain ⟨x, t, T, b, rfl, ht, e, q⟩ := h
  obtain ⟨u, v, rfl, r1, r2⟩ := Vals.two r
  cases (show v = Value.type T from r2)
  have e' := kit_ok X.K e
  have fin : ∀ tk, EP X pins σ Q (.bool b) { s with toks := tk } := fun tk => ⟨.bl b, H, I.tok tk, rfl, q⟩
  cases x with
  | non => cases (show t = _ from ht); exact isinst_ok I r1 (.non) e' fin
  | bl y => cases (show t = _ from ht); exact isinst_ok I r1 (.bl y) e' fin
  | int i => cases (show t = _ from ht); exact isinst_ok I r1 (.int i) e' fin
  | str y => cases (show t = _ from ht); exact isinst_ok I r1 (.str y) e' fin
  | ref a =>
    cases (show u = Value.ref a from r1)
    rcases (show (t = "list" ∧ ∃ xs, SqL X.K H a xs) ∨ (t = "tuple" ∧ ∃ xs, SqT X.K H a xs) from ht) with ⟨rfl, xs, hs⟩ | ⟨rfl, xs, hs⟩
    · obtain ⟨its, _, ⟨o, n, h1, h2, _⟩, _⟩ := I.list hs
      exact PySem.W.kia_one PySem.W.kitx_list I.kIn ⟨o, h1, h2⟩ e' (fun z => nomatch z) fin
    · obtain ⟨its, _, ⟨o, h1, h2, _⟩, _⟩ := I.tuple hs
      exact PySem.W.kia_one PySem.W.kitx_tuple I.kIn ⟨o, h1, h2⟩ e' (fun z => nomatch z) fin
  | _ => exact False.elim ht
theorem tyA_ok {K : Fg} {O : Addr → Prop} {H : Hp} {d : D} {v : V} {t : String} (h : Is K O H d v) (e : tyN d = some t) : TyA K H v t := by
  cases d <;> first | (simp only [tyN, reduceCtorEq] at e; done) | skip
  all_goals simp only [tyN, Option.some.injEq] at e
  all_goals subst e
  · rw [Is.non_iff] at h; subst h; rfl
  · rw [Is.bl_iff] at h; subst h; rfl
  · rw [Is.int_iff] at h; subst h; rfl
  · rw [Is.str_iff] at h; subst h; rfl
  · rw [Is.tup_iff] at h; obtain ⟨a, xs, rfl, hs, _⟩ := h; exact .inr ⟨rfl, xs, hs⟩
  · rw [Is.lst_iff] at h; obtain ⟨a, xs, rfl, hs, _⟩ := h; exact .inl ⟨rfl, xs, hs.sq⟩
theorem de_isinst {p' pt : Pos} {x : Str} {T : String} (hg : Gl X "isinstance") (hm : X.mg "isinstance" = none) (ha : DE X a f) (hT : PE X (.Name x pt) (tC (.ty T))) (hs : starEach [a, .Name x pt] X.env = (false, eval a X.env) :: starEach [.Name x pt] X.env := by rfl) (hs2 : starEach [.Name x pt] X.env = (false, eval (.Name x pt) X.env) :: starEach [] X.env := by rfl) : DE X (.Call (.Name "isinstance" p') [a, .Name x pt] [] pos) (mUn (instD T) f) := by
  refine PE.conseq (pe_callB call_isinst hg hm PyProof.Rows.boot_isinstance (pa_cons ha (pa_cons hT pa_nil hs2) hs) (he := hs)) fun σ H Q h => ?_
  obtain ⟨O0, r, d, hR, e, q⟩ := h
  obtain ⟨x, e1, e2⟩ := bind_some e
  obtain ⟨t, e3, e4⟩ := bind_some e2
  obtain ⟨b, e5, rfl⟩ := map_some e4
  exact ⟨O0, r, x, hR, e1, fun v H1 s1 i1 => ⟨v, t, T, b, rfl, tyA_ok i1 e3, e5, q _ H1 s1 (by rw [Is.bl_iff])⟩⟩
end
def mtOf (r : En) (i : Nat) : Option (List D) := (r[i]?).bind Sl.mt
def putO (i : Nat) (l : List D) (r : En) : Option En := match r[i]? with
  | some (.o _) => some (r.set i (.o l))
  | some (.p _) => some (r.set i (.p l))
  | _ => none
section
variable {K : Fg} {O0 : Addr → Prop} {H H' : Hp} {r : En} {σ : St} {i : Nat} {a : Addr} {l l' : List D}
theorem putO_some {r' : En} (e : putO i l' r = some r') : ∃ x y, r[i]? = some x ∧ r' = r.set i y ∧ y.own = some l' ∧ y.mt = some l' ∧ (∃ l, x.mt = some l) ∧ (∀ m, y = .p m ↔ m = l' ∧ ∃ n, x = .p n) ∧ (∀ m, y = .o m ↔ m = l' ∧ ∃ n, x = .o n) ∧ ∀ m, y ≠ .z m := by
  unfold putO at e
  cases e1 : r[i]? with
  | none => rw [e1] at e; cases e
  | some x =>
    rw [e1] at e
    cases x with
    | o n => cases e; exact ⟨.o n, .o l', rfl, rfl, rfl, rfl, ⟨n, rfl⟩, fun m => ⟨(fun z => by cases z), (fun ⟨_, _, z⟩ => by cases z)⟩, fun m => ⟨(fun z => by cases z; exact ⟨rfl, n, rfl⟩), (fun ⟨z, _⟩ => by subst z; rfl)⟩, (fun m z => by cases z)⟩
    | p n => cases e; exact ⟨.p n, .p l', rfl, rfl, rfl, rfl, ⟨n, rfl⟩, fun m => ⟨(fun z => by cases z; exact ⟨rfl, n, rfl⟩), (fun ⟨z, _⟩ => by subst z; rfl)⟩, fun m => ⟨(fun z => by cases z), (fun ⟨_, _, z⟩ => by cases z)⟩, (fun m z => by cases z)⟩
    | _ => cases e
theorem R.put {r' : En} {xs' : List V} (h : R K O0 H r σ) (e : putO i l' r = some r') (ha : σ[i]? = some (some (.ref a))) (kp : ∀ b o, b ≠ a → H b = some o → H' b = some o) (lv : ∀ b, b ≠ a → H' b = none → H b = none) (e' : H' a = some (.lst xs')) (il : IsL K (Ow O0 r σ) H' l' xs') :
    R K O0 H' r' σ ∧ Kp H r σ H' r' σ := by
  obtain ⟨x, y, ex, rfl, yo, ym, ⟨l0, xm⟩, yp, yoo, yz⟩ := putO_some e
  have hi : i < r.length := (List.getElem?_eq_some_iff.mp ex).1
  have own_i : OwnAt r σ a := ⟨i, l0, by rw [ex]; exact mt_own xm, ha⟩
  have mut_i : MutAt r σ a := ⟨i, l0, by rw [ex]; exact xm, ha⟩
  have atO : ∀ b, OwnAt (r.set i y) σ b → OwnAt r σ b := fun b ⟨j, m, e1, q1⟩ => by
    by_cases hj : i = j
    · subst hj; rw [ha] at q1; cases q1; exact own_i
    · rw [get_set_ne hj] at e1; exact ⟨j, m, e1, q1⟩
  have atM : ∀ b, MutAt (r.set i y) σ b → MutAt r σ b := fun b ⟨j, m, e1, q1⟩ => by
    by_cases hj : i = j
    · subst hj; rw [ha] at q1; cases q1; exact mut_i
    · rw [get_set_ne hj] at e1; exact ⟨j, m, e1, q1⟩
  have sub : ∀ b, Ow O0 (r.set i y) σ b → H b ≠ none → Ow O0 r σ b := fun b z _ => z.imp id (atO b)
  have sub' : ∀ b, Ow O0 (r.set i y) σ b → H' b ≠ none → Ow O0 r σ b := fun b z _ => z.imp id (atO b)
  have keep : Keep (Ow O0 r σ) H H' := fun b o e1 n => kp b o (fun z => n (by subst z; exact .inr own_i)) e1
  have lst : ∀ b xs, H b = some (.lst xs) → ∃ ys, H' b = some (.lst ys) := fun b xs e1 => by
    by_cases hb : b = a
    · subst hb; exact ⟨xs', e'⟩
    · exact ⟨xs, kp b _ hb e1⟩
  have ol' : OLst (Ow O0 r σ) H' := fun b z => by obtain ⟨xs, q⟩ := h.ol b z; exact lst b xs q
  refine ⟨⟨by simp [h.len], fun j d e1 => ?_, fun j m e1 => ?_, fun j k b m n e1 e2 q1 q2 => ?_, fun b z => ?_, fun j m b e1 q1 => ?_, fun j m b e1 q1 => ?_⟩, ⟨fun b o e1 n => kp b o (fun z => n (by subst z; exact mut_i)) e1, fun b e1 => ?_, lst, fun b z => .inl (atO b z), fun b z => .inl (atM b z), fun j m e1 => ?_, fun j m e1 => ?_⟩⟩
  · have hj : i ≠ j := fun z => by subst z; rw [get_set_eq hi] at e1; cases e1; cases yo
    rw [get_set_ne hj] at e1
    obtain ⟨v, q1, q2⟩ := h.val j d e1
    exact ⟨v, q1, Is.mono keep h.ol sub _ _ q2⟩
  · by_cases hj : i = j
    · subst hj
      rw [get_set_eq hi] at e1
      have : l' = m := by have e1' : y.own = some m := e1; rw [yo] at e1'; exact Option.some.inj e1'
      subst this
      exact ⟨a, xs', ha, e', IsL.mono (Same.kp (Same.refl H') _) ol' sub' _ _ il⟩
    · rw [get_set_ne hj] at e1
      obtain ⟨b, ys, q1, q2, q3⟩ := h.own j m e1
      have hb : b ≠ a := fun z => by
        subst z
        exact hj (h.apart i j b l0 m (by rw [ex]; exact mt_own xm) e1 ha q1)
      exact ⟨b, ys, q1, kp b _ hb q2, IsL.mono keep h.ol sub _ _ q3⟩
  · have get : ∀ (j : Nat) (m : List D), ((r.set i y)[j]?).bind Sl.own = some m → ∃ m', (r[j]?).bind Sl.own = some m' := fun j m e1 => by
      by_cases hj : i = j
      · subst hj; exact ⟨l0, by rw [ex]; exact mt_own xm⟩
      · rw [get_set_ne hj] at e1; exact ⟨m, e1⟩
    obtain ⟨m', z1⟩ := get j m e1
    obtain ⟨n', z2⟩ := get k n e2
    exact h.apart j k b m' n' z1 z2 q1 q2
  · obtain ⟨xs, q⟩ := h.o0 b z; exact lst b xs q
  · by_cases hj : i = j
    · subst hj
      rw [get_set_eq hi] at e1
      rcases e1 with e1 | e1
      · obtain ⟨_, n, z⟩ := (yoo m).mp (Option.some.inj e1)
        exact h.loc i n b (.inl (by rw [ex, z])) q1
      · exact absurd (Option.some.inj e1) (yz m)
    · rw [get_set_ne hj] at e1
      exact h.loc j m b e1 q1
  · by_cases hj : i = j
    · subst hj
      rw [get_set_eq hi] at e1
      obtain ⟨_, n, z⟩ := (yp m).mp (Option.some.inj e1)
      exact h.par i n b (by rw [ex, z]) q1
    · rw [get_set_ne hj] at e1
      exact h.par j m b e1 q1
  · by_cases hb : b = a
    · subst hb; rw [e'] at e1; cases e1
    · exact lv b hb e1
  · by_cases hj : i = j
    · subst hj
      rw [ex] at e1
      exact ⟨⟨l', by rw [get_set_eq hi, (yp l').mpr ⟨rfl, m, Option.some.inj e1⟩]⟩, rfl⟩
    · exact ⟨⟨m, by rw [get_set_ne hj]; exact e1⟩, rfl⟩
  · have hj : i ≠ j := fun z => by subst z; rw [ex] at e1; cases e1; cases xm
    exact ⟨by rw [get_set_ne hj]; exact e1, rfl⟩
theorem R.upd {r' : En} {xs xs' : List V} (h : R K O0 H r σ) (e : putO i l' r = some r') (ha : σ[i]? = some (some (.ref a))) (hx : H a = some (.lst xs)) (il : IsL K (Ow O0 r σ) H l' xs') : R K O0 (upd H a (.lst xs')) r' σ ∧ Kp H r σ (upd H a (.lst xs')) r' σ := by
  have own_a : Ow O0 r σ a := by
    obtain ⟨x, y, ex, _, _, _, ⟨l0, xm⟩, _⟩ := putO_some e
    exact .inr ⟨i, l0, by rw [ex]; exact mt_own xm, ha⟩
  refine h.put e ha (fun b o hb e1 => by rw [upd_ne hb]; exact e1) (fun b hb e1 => by rw [upd_ne hb] at e1; exact e1) upd_same ?_
  exact IsL.mono (fun b o e1 n => by rw [upd_ne (fun z => n (by subst z; exact own_a))]; exact e1) h.ol (fun _ z _ => z) _ _ il
end
def mApp (i : Nat) (f : ME) : En → Option (D × En) := fun r => (f r).bind fun d => (mtOf r i).bind fun l => if l.length < sizeLine then (putO i (l ++ [d]) r).map fun r' => (.non, r') else none
def mAppX (i : Nat) (f : En → Option (D × En)) : En → Option (D × En) := fun r0 => (f r0).bind fun p => (mtOf r0 i).bind fun _ => (mtOf p.2 i).bind fun l => if l.length < sizeLine then (putO i (l ++ [p.1]) p.2).map fun r' => (.non, r') else none
def mPop (i : Nat) : En → Option (D × En) := fun r => (mtOf r i).bind fun l => (l[l.length - 1]?).bind fun d => (putO i l.dropLast r).map fun r' => (d, r')
def mExt (i : Nat) (f : ME) : En → Option (D × En) := fun r => (f r).bind fun d => (itemsD d).bind fun m => (mtOf r i).bind fun l => if l.length + m.length ≤ sizeLine then (putO i (l ++ m) r).map fun r' => (.non, r') else none
theorem IsL.dropLast {K : Fg} {O : Addr → Prop} {H : Hp} {l : List D} {vs : List V} (h : IsL K O H l vs) : IsL K O H l.dropLast vs.dropLast := by
  rw [List.dropLast_eq_take, List.dropLast_eq_take, h.length]
  exact h.take _
section
variable {X : Cx} {apos cpos pn : Pos} {e : Expr} {f : ME} {x : Str} {i : Nat}
theorem mt_at {K : Fg} {O0 : Addr → Prop} {H : Hp} {r : En} {σ : St} {l : List D} (h : R K O0 H r σ) (e : mtOf r i = some l) : ∃ a xs, σ[i]? = some (some (.ref a)) ∧ H a = some (.lst xs) ∧ IsL K (Ow O0 r σ) H l xs := by
  obtain ⟨y, e1, e2⟩ := bind_some e
  exact h.own i l (by rw [e1]; exact mt_own e2)
theorem dx_append (i : Nat) {x : Str} (h : PE X (.Name x pn) (tVar i)) (he : DE X e f)
    (hline : (apos.endLine == cpos.line) = true := by rfl) (hbase : attributeBase (.Name x pn) "append" X.env (eval (.Name x pn) X.env) = eval (.Name x pn) X.env := by rfl)
    (hfew : ((backTo cpos (starEach [e] X.env)).all (fun x => !x.1) && (backToKw cpos (keywordEach [] X.env)).all (fun x => x.1.isSome) && decide ([e].length + ([] : List Keyword).length + (if ([] : List Keyword).isEmpty then 0 else 1) < 30)) = true := by rfl)
    (hs : starEach [e] X.env = (false, eval e X.env) :: starEach [] X.env := by rfl) :
    DX X (.Call (.Attribute (.Name x pn) "append" apos) [e] [] cpos) (mApp i f) := by
  refine PE.conseq (pe_bm PySem.F.plainAttrs_list PySem.F.slot_list_append PySem.F.type_list_append mt_append h (pa_cons he pa_nil hs) hbase hfew hline hs) fun σ H Q hq => ?_
  obtain ⟨O0, r, d', r', hR, e, q⟩ := hq
  obtain ⟨d, e1, e⟩ := bind_some e
  obtain ⟨l, e2, e⟩ := bind_some e
  split at e
  · rename_i hl
    obtain ⟨r2, e3, e4⟩ := map_some e
    cases e4
    obtain ⟨a, xs, q1, q2, q3⟩ := mt_at hR e2
    refine ⟨.ref a, q1, .inl ⟨rfl, xs, SqL.of q2⟩, O0, r, d, hR, e1, fun v H1 s1 i1 => ?_⟩
    have R1 := hR.same s1
    obtain ⟨R2, k2⟩ := R1.upd (xs' := xs ++ [v]) e3 q1 (s1 _ _ q2) ((q3.same s1 hR.ol).append (.cons i1 .nil))
    exact ⟨a, xs, v, rfl, rfl, s1 _ _ q2, by rw [← q3.length]; exact hl, q _ _ R2 ((Kp.of_same r σ s1).trans k2) (by rw [Is.non_iff])⟩
  · cases e
theorem dx_appendX (i : Nat) {x : Str} {fx : En → Option (D × En)} (h : PE X (.Name x pn) (tVar i)) (he : DX X e fx)
    (hline : (apos.endLine == cpos.line) = true := by rfl) (hbase : attributeBase (.Name x pn) "append" X.env (eval (.Name x pn) X.env) = eval (.Name x pn) X.env := by rfl)
    (hfew : ((backTo cpos (starEach [e] X.env)).all (fun x => !x.1) && (backToKw cpos (keywordEach [] X.env)).all (fun x => x.1.isSome) && decide ([e].length + ([] : List Keyword).length + (if ([] : List Keyword).isEmpty then 0 else 1) < 30)) = true := by rfl)
    (hs : starEach [e] X.env = (false, eval e X.env) :: starEach [] X.env := by rfl) :
    DX X (.Call (.Attribute (.Name x pn) "append" apos) [e] [] cpos) (mAppX i fx) := by
  refine PE.conseq (pe_bm PySem.F.plainAttrs_list PySem.F.slot_list_append PySem.F.type_list_append mt_append h (pa_cons he pa_nil hs) hbase hfew hline hs) fun σ H Q hq => ?_
  obtain ⟨O0, r, d', r', hR, e, q⟩ := hq
  obtain ⟨⟨d, r1⟩, e1, e⟩ := bind_some e
  obtain ⟨l0, e0, e⟩ := bind_some e
  obtain ⟨l, e2, e⟩ := bind_some e
  split at e
  · rename_i hl
    obtain ⟨r2, e3, e4⟩ := map_some e
    cases e4
    obtain ⟨a0, xs0, p1, p2, p3⟩ := mt_at hR e0
    refine ⟨.ref a0, p1, .inl ⟨rfl, xs0, SqL.of p2⟩, O0, r, d, r1, hR, e1, fun v H1 R1 k1 i1 => ?_⟩
    obtain ⟨a, xs, q1, q2, q3⟩ := mt_at R1 e2
    rw [p1] at q1; cases q1
    obtain ⟨R2, k2⟩ := R1.upd (xs' := xs ++ [v]) e3 p1 q2 (q3.append (.cons i1 .nil))
    exact ⟨_, xs, v, rfl, rfl, q2, by rw [← q3.length]; exact hl, q _ _ R2 (k1.trans k2) (by rw [Is.non_iff])⟩
  · cases e
theorem dx_pop (i : Nat) {x : Str} (h : PE X (.Name x pn) (tVar i)) (hbase : attributeBase (.Name x pn) "pop" X.env (eval (.Name x pn) X.env) = eval (.Name x pn) X.env := by rfl) (hline : (apos.endLine == cpos.line) = true := by rfl) :
    DX X (.Call (.Attribute (.Name x pn) "pop" apos) [] [] cpos) (mPop i) := by
  refine PE.conseq (pe_bm0 PySem.F.plainAttrs_list PySem.F.slot_list_pop PySem.F.type_list_pop mt_pop h hbase hline) fun σ H Q hq => ?_
  obtain ⟨O0, r, d', r', hR, e, q⟩ := hq
  obtain ⟨l, e2, e⟩ := bind_some e
  obtain ⟨d, e1, e⟩ := bind_some e
  obtain ⟨r2, e3, e4⟩ := map_some e
  have e5 : d = d' := congrArg Prod.fst e4
  have e6 : r2 = r' := congrArg Prod.snd e4
  subst e5 e6
  obtain ⟨a, xs, q1, q2, q3⟩ := mt_at hR e2
  obtain ⟨v, ev, iv⟩ := q3.get e1
  obtain ⟨R2, k2⟩ := hR.upd (xs' := xs.dropLast) e3 q1 q2 q3.dropLast
  refine ⟨.ref a, q1, .inl ⟨rfl, xs, SqL.of q2⟩, a, xs, v, rfl, rfl, q2, by rw [← q3.length]; exact ev, q _ _ R2 k2 ?_⟩
  have own_a : Ow O0 r σ a := by
    obtain ⟨y, z1, z2⟩ := bind_some e2
    exact .inr ⟨i, l, by rw [z1]; exact mt_own z2, q1⟩
  have ow2 : ∀ b, Ow O0 r2 σ b → H b ≠ none → Ow O0 r σ b := fun b z n => z.imp id fun z => (k2.new b z).elim id fun z => absurd z n
  exact Is.mono (fun b o e1 n => by rw [upd_ne (fun z => n (by subst z; exact own_a))]; exact e1) hR.ol ow2 _ _ iv
end
def capS : Option Sl → Sl
  | some (.v d) => .v d
  | _ => .un
def capR (cap : List Nat) (n : Nat) (r : En) : En := (cap.map fun j => capS r[j]?) ++ List.replicate (n - cap.length) .un
def compL (bd : D → En → Option En) (c : MB) (x : ME) : List D → En → Option (List D)
  | [], _ => some []
  | d :: t, r => (bd d r).bind fun r1 => (c r1).bind fun b => if b = true then (x r1).bind fun y => (compL bd c x t r1).map (y :: ·) else compL bd c x t r1
def mTrue : MB := fun _ => some true
def mCompIf (cap : List Nat) (n : Nat) (it : ML) (bd : D → En → Option En) (c : MB) (x : ME) : ML := fun r => (it r).bind fun l => if l.length < sizeLine then compL bd c x l (capR cap n r) else none
def mComp (cap : List Nat) (n : Nat) (it : ML) (bd : D → En → Option En) (x : ME) : ML := mCompIf cap n it bd mTrue x
theorem R.cap {K : Fg} {O0 : Addr → Prop} {H H2 : Hp} {r : En} {σ : St} {cap : List Nat} {n : Nat} {p : Addr} {ys : List V} (h : R K O0 H r σ) (s : Same H H2) (hp : H p = none) (ep : H2 p = some (.lst ys)) :
    R K (fun b => Ow O0 r σ b ∨ b = p) H2 (capR cap n r) (sigC cap n σ) := by
  have noO : ∀ (i : Nat) (l : List D), ((capR cap n r)[i]?).bind Sl.own ≠ some l := fun i l e => by
    unfold capR at e
    by_cases hi : i < cap.length
    · rw [List.getElem?_append_left (by simpa using hi), List.getElem?_map] at e
      obtain ⟨j, hj⟩ : ∃ j, cap[i]? = some j := ⟨cap[i], by simp [hi]⟩
      rw [hj] at e
      have e' : (capS r[j]?).own = some l := e
      cases ej : r[j]? with
      | none => rw [ej] at e'; cases e'
      | some y => rw [ej] at e'; cases y <;> cases e'
    · rw [List.getElem?_append_right (by simpa using Nat.le_of_not_lt hi), List.getElem?_replicate] at e
      split at e <;> cases e
  have ol : OLst (fun b => Ow O0 r σ b ∨ b = p) H2 := fun b z => z.elim (fun z => (h.same s).ol b z) fun z => by subst z; exact ⟨ys, ep⟩
  refine ⟨by simp [capR, sigC], fun i d e => ?_, fun i l e => absurd e (noO i l), fun i j a l m e1 => absurd e1 (noO i l), ol, fun i l a e => absurd (show ((capR cap n r)[i]?).bind Sl.own = some l by rcases e with e | e <;> rw [e] <;> rfl) (noO i l), fun i l a e => absurd (show ((capR cap n r)[i]?).bind Sl.own = some l by rw [e]; rfl) (noO i l)⟩
  unfold capR at e
  by_cases hi : i < cap.length
  · rw [List.getElem?_append_left (by simpa using hi), List.getElem?_map] at e
    obtain ⟨j, hj⟩ : ∃ j, cap[i]? = some j := ⟨cap[i], by simp [hi]⟩
    rw [hj] at e
    have e' : capS r[j]? = .v d := Option.some.inj e
    have ej : r[j]? = some (.v d) := by
      cases ej : r[j]? with
      | none => rw [ej] at e'; cases e'
      | some y => rw [ej] at e'; cases y <;> cases e'; rfl
    obtain ⟨v, e1, q⟩ := h.val j d ej
    refine ⟨v, ?_, ?_⟩
    · unfold sigC
      rw [List.getElem?_append_left (by simpa using hi), List.getElem?_map, hj]
      show some ((σ[j]?).getD none) = _
      rw [e1]; rfl
    · refine Is.mono (Same.kp s _) h.ol (fun a z nn => ?_) _ _ q
      rcases z with (z | z) | ⟨k, l, ek, _⟩
      · exact z
      · subst z; exact absurd hp nn
      · exact absurd ek (noO k l)
  · rw [List.getElem?_append_right (by simpa using Nat.le_of_not_lt hi), List.getElem?_replicate] at e
    split at e <;> cases e
section
variable {X : Cx} {N' : List Str} {cap : List Nat} {scope : Scope} {elt tg iter : Expr} {ifs : List Expr} {pos : Pos} {it : ML} {bd : D → En → Option En} {c : MB} {x : ME}
theorem comp_read {tc : Option TT} (htc : ∀ {σ : St} {H : Hp} {K1 : V → Hp → Prop} {K0 : Hp → Prop} {te : TE}, (lT X.K c σ H fun b H1 => if b = true then te σ H1 K1 else K0 H1) → tComp1 tc te K1 K0 σ H)
    (n : Nat) {σ : St} {H : Hp} {Q : VK} (h : lF X.K (mCompIf cap n it bd c x) σ H Q) : tComp cap n (lI X.K it) (lG X.K bd) tc (lE X.K x) σ H Q := by
  obtain ⟨O0, r, out, hR, e, q⟩ := h
  obtain ⟨l, e1, e2⟩ := bind_some e
  split at e2
  · rename_i hlen
    refine ⟨O0, r, l, hR, e1, fun J H1 s1 yl p hp => ?_⟩
    have hpH : H p = none := s1.free hp
    refine ⟨fun i m ys σ2 H2 => m = l.length - i ∧ i ≤ l.length ∧ ys.length ≤ i ∧ H2 p = some (.lst ys) ∧ Same H1 H2 ∧ ∃ r2 dn rest, R X.K (fun b => Ow O0 r σ b ∨ b = p) H2 r2 σ2 ∧ (∀ a, ¬ OwnAt r2 σ2 a) ∧ IsL X.K (fun b => Ow O0 r σ b ∨ b = p) H2 dn ys ∧ compL bd c x (l.drop i) r2 = some rest ∧ dn ++ rest = out,
      ⟨l.length, by simp, Nat.zero_le _, Nat.le_refl _, upd_same, same_upd hp, capR cap n r, [], out, ?_, ?_, .nil, by simpa using e2, rfl⟩, ?_⟩
    · exact R.cap hR (s1.trans (same_upd hp)) hpH upd_same
    · rintro a ⟨i, l', e', _⟩
      obtain ⟨b, xs, _, _⟩ := (R.cap (cap := cap) (n := n) hR (s1.trans (same_upd hp)) hpH (upd_same (o := .lst []))).own i l' e'
      unfold capR at e'
      by_cases hi : i < cap.length
      · rw [List.getElem?_append_left (by simpa using hi), List.getElem?_map] at e'
        obtain ⟨j, hj⟩ : ∃ j, cap[i]? = some j := ⟨cap[i], by simp [hi]⟩
        rw [hj] at e'
        have e'' : (capS r[j]?).own = some l' := e'
        cases ej : r[j]? with
        | none => rw [ej] at e''; cases e''
        | some y => rw [ej] at e''; cases y <;> cases e''
      · rw [List.getElem?_append_right (by simpa using Nat.le_of_not_lt hi), List.getElem?_replicate] at e'
        split at e' <;> cases e'
    · rintro i m ys σ2 H2 ⟨rfl, hil, hyl, hp2, s2, r2, dn, rest, R2, no2, il2, e3, eo⟩
      refine ⟨hp2, by omega, ?_⟩
      obtain ⟨y1, y2⟩ := yl i H2 (fun b => Ow O0 r σ b ∨ b = p) (Same.kp s2 _) fun a z nn => z.elim id fun z => by subst z; exact absurd hp nn
      by_cases hlt : i < l.length
      · obtain ⟨go, yd⟩ := y1 hlt
        have hd : l[i]? = some l[i] := by simp [hlt]
        rw [drop_cons hd] at e3
        obtain ⟨r3, e4, e5⟩ := bind_some e3
        obtain ⟨b, e6, e7⟩ := bind_some e5
        refine .inr ⟨go, fun v H3 yv => ?_⟩
        obtain ⟨s3, iv⟩ := yd v H3 yv
        have R3 := R2.same s3
        have ow2 : ∀ a, Ow (fun b => Ow O0 r σ b ∨ b = p) r2 σ2 a → Ow O0 r σ a ∨ a = p := fun a z => z.elim id fun z => absurd z (no2 a)
        refine ⟨_, r2, l[i], r3, R3, ?_, e4, fun σ4 R4 k4 => ?_⟩
        · exact Is.mono (Same.kp (Same.refl H3) _) R3.o0 (fun a z _ => ow2 a z) _ _ (iv _ hd)
        have no4 : ∀ a, ¬ OwnAt r3 σ4 a := fun a z => by
          rcases k4.new a z with z' | z'
          · exact no2 a z'
          · obtain ⟨xs, ex⟩ := R4.ol a (.inr z)
            rw [z'] at ex; cases ex
        have ow4 : ∀ a, Ow (fun b => Ow O0 r σ b ∨ b = p) r3 σ4 a → Ow O0 r σ a ∨ a = p := fun a z => z.elim id fun z => absurd z (no4 a)
        refine htc ⟨_, r3, b, R4, e6, fun H5 s5 => ?_⟩
        have R5 := R4.same s5
        cases b with
        | false =>
          rw [if_neg Bool.false_ne_true] at e7
          refine iteF ⟨l.length - (i + 1), by omega, rfl, hlt, by omega, (s3.trans s5) _ _ hp2, s2.trans (s3.trans s5), r3, dn, rest, R5, no4, ?_, e7, eo⟩
          exact il2.same (s3.trans s5) R2.o0
        | true =>
          rw [if_pos rfl] at e7
          obtain ⟨y, e8, e9⟩ := bind_some e7
          obtain ⟨rest', e10, e11⟩ := map_some e9
          refine iteT ⟨_, r3, y, R5, e8, fun u H6 s6 iu => ?_⟩
          have s26 := s3.trans (s5.trans s6)
          have hp6 := s26 _ _ hp2
          have R6 := R5.same s6
          have kk : Keep (fun b => Ow O0 r σ b ∨ b = p) H6 (upd H6 p (.lst (ys ++ [u]))) := fun b' o e' nn => by rw [upd_ne (fun z => nn (.inr z))]; exact e'
          refine ⟨hp6, l.length - (i + 1), by omega, rfl, hlt, by simp; omega, upd_same, ?_, r3, dn ++ [y], rest', ?_, no4, ?_, e10, ?_⟩
          · intro b' o e'
            have hb : b' ≠ p := fun z => by subst z; rw [hp] at e'; cases e'
            rw [upd_ne hb]
            exact s26 _ _ (s2 _ _ e')
          · refine ⟨R6.len, fun j d ej => ?_, fun j m ej => ?_, R6.apart, fun b' z => ?_, R6.loc, R6.par⟩
            · obtain ⟨w, q1, q2⟩ := R6.val j d ej
              exact ⟨w, q1, Is.mono (fun b' o e' nn => kk b' o e' fun z => nn (.inl z)) R6.ol (fun _ z _ => z) _ _ q2⟩
            · obtain ⟨a', xs', q1, q2, _⟩ := R6.own j m ej
              exact absurd ⟨j, m, ej, q1⟩ (no4 a')
            · rcases z with z | z
              · by_cases hb : b' = p
                · subst hb; exact ⟨_, upd_same⟩
                · rw [upd_ne hb]; exact R6.o0 b' (.inl z)
              · subst z; exact ⟨_, upd_same⟩
          · have i1 := il2.same s26 R2.o0
            have i2 : Is X.K (fun b => Ow O0 r σ b ∨ b = p) H6 y u := Is.mono (Same.kp (Same.refl H6) _) R6.ol (fun a z _ => .inl z) _ _ iu
            exact IsL.mono kk R6.o0 (fun _ z _ => z) _ _ (i1.append (.cons i2 .nil))
          · rw [← eo, ← e11]; simp
      · have hl : l.drop i = [] := List.drop_eq_nil_of_le (by omega)
        rw [hl] at e3
        have e3' : some [] = some rest := e3
        cases e3'
        rw [List.append_nil] at eo
        subst eo
        exact .inl ⟨y2 (by omega), q p ys H2 (s1.trans s2) hpH hp2 il2⟩
  · cases e2
theorem df_comp (hc : X.calm = true) (o : CmpOk X N' cap scope) (hi : DI X tg iter it) (hg : ∀ C fp s H, DG (cxC X N' scope C fp s H) tg bd) (he : ∀ C fp s H, DE (cxC X N' scope C fp s H) elt x)
    (n : Nat) (hn : N'.length = n := by rfl) (hs : ∀ x, foldedSetIterable iter X.env x = pure x := by intro _; rfl) : DF X (.ListComp elt [⟨tg, iter, [], 0⟩] scope pos) (mComp cap n it bd x) := by
  subst hn
  exact PE.conseq (pe_lcomp (g := lG X.K bd) (te := lE X.K x) (tc := none) hc o hi hg rfl he hs) fun σ H Q h => comp_read (tc := none) (fun {σ H K1 K0 te} z => by
    obtain ⟨O0, r, b, hR, e, q⟩ := z
    unfold mTrue at e; cases e
    have z1 : (if true = true then te σ H K1 else K0 H) := q H (Same.refl H)
    rw [if_pos rfl] at z1
    exact z1) N'.length h
end
def CapOk (X : Cx) (scope : Scope) : List Nat → List Str → Prop
  | [], _ => True
  | j :: t, x :: r => X.N[j]? = some x ∧ scope.names.lookup x = some .free ∧ CapOk X scope t r
  | _ :: _, [] => False
theorem CapOk.get {X : Cx} {scope : Scope} : ∀ {cap : List Nat} {N' : List Str}, CapOk X scope cap N' → ∀ (i j : Nat), cap[i]? = some j → ∃ x, N'[i]? = some x ∧ X.N[j]? = some x ∧ scope.names.lookup x = some .free
  | [], _, _, i, j, e => by simp at e
  | k :: t, [], h, _, _, _ => False.elim h
  | k :: t, x :: r, h, 0, j, e => by
    have e' : k = j := by simpa using e
    subst e'
    exact ⟨x, rfl, h.1, h.2.1⟩
  | k :: t, x :: r, h, i + 1, j, e => by
    obtain ⟨y, q1, q2⟩ := CapOk.get h.2.2 i j (by simpa using e)
    exact ⟨y, by simpa using q1, q2⟩
theorem CapOk.len {X : Cx} {scope : Scope} : ∀ {cap : List Nat} {N' : List Str}, CapOk X scope cap N' → cap.length ≤ N'.length
  | [], _, _ => Nat.zero_le _
  | k :: t, [], h => False.elim h
  | k :: t, x :: r, h => Nat.succ_le_succ (CapOk.len h.2.2)
theorem cmp_mk {X : Cx} {N' : List Str} {cap : List Nat} {scope : Scope} (kind : scope.kind = .function := by rfl) (nc : ∀ y ∈ scope.names, y.2 ≠ .cell := by decide +kernel) (nm : ∀ y ∈ scope.names, y.2 = .local → scope.names.lookup y.1 = some .local := by decide +kernel)
    (fr : ∀ y ∈ scope.names, y.2 = .free → X.env.kindOf y.1 = some .cell ∨ X.env.kindOf y.1 = some .free := by repeat (first | exact List.forall_mem_nil _ | refine List.forall_mem_cons.mpr ⟨fun e => (by first | exact absurd e (by decide) | exact .inl rfl | exact .inr rfl), ?_⟩))
    (capt : CapOk X scope cap N' := by repeat (first | exact trivial | refine ⟨rfl, rfl, ?_⟩)) : CmpOk X N' cap scope := ⟨kind, nc, nm, fr, capt.get, capt.len⟩
end DD
namespace ZZ
open PySem
section
variable {prog : Program} {w : World} {A : Around} {E : Value → Shared → Prop} {s : Shared}
theorem tnext {ti tu : Addr} {k : Nat} {ys : Array Value} {y : Value} {Q : Value → Shared → Prop} (h1 : s.heap.IsTupleIter ti tu k) (h2 : s.heap.IsTuple tu ys) (h3 : ys[k]? = some y)
    (h4 : ∀ g, g.IsTupleIter ti tu (k + 1) → Heap.SameBut ti s.heap g → Q y { s with heap := g }) : wpAny (model prog w) A (Builtin.SmallTypes.nextOf (.ref ti)) Q E s := by
  obtain ⟨a, ha, ca, da⟩ := id h1
  obtain ⟨b, hb, _, nb, db⟩ := h2
  unfold Builtin.SmallTypes.nextOf; refine wpAny_bind (wpAny_callSpecial?_slot (name := Str.ofString "__next__") h1.typeIs F.slot_tuple_iterator_next (wpAny_call_entry F.slot_tuple_iterator_next h1.typeIs F.entry_tuple_iterator_next (?_) (F.args_tuple_iterator_next_1 _)))
  show wpAny _ _ (field (.ref ti) 0 >>= _) _ _ s; refine wpAny_bind (wpAny_field ha da (x := .ref tu) rfl (?_))
  show wpAny _ _ (if (Value.ref tu == Value.none) = true then _ else _) _ _ s; rw [if_neg (show ¬ ((Value.ref tu == Value.none) = true) from Bool.false_ne_true)]
  show wpAny _ _ (field (.ref ti) 1 >>= _) _ _ s; refine wpAny_bind (wpAny_field ha da (x := .int k 0) rfl (?_))
  show wpAny _ _ (seqItems? (.ref tu) >>= _) _ _ s; refine wpAny_bind (wpAny_seqItems hb db (?_)); simp only [Int.toNat_natCast, h3]
  refine wpAny_bind (wpAny_setField ha da (by simp) (wpAny_pure ⟨y, rfl, wpAny_pure (h4 _ (?_) (Heap.SameBut.update ..))⟩))
  refine ⟨_, Heap.get?_update_self _ ha (Obj.isFreed_of_fields (Obj.data_mapFields da _)), (Obj.cls_mapFields ..).trans ca, ?_⟩; rw [Obj.data_mapFields da]; simp [rawInt]
theorem tend {ti tu : Addr} {k : Nat} {ys : Array Value} {Q : Value → Shared → Prop} (hh : A.handled = none) (h1 : s.heap.IsTupleIter ti tu k) (h2 : s.heap.IsTuple tu ys) (h3 : ys[k]? = none)
    (h4 : ∀ g e, Heap.ExtBut ti s.heap g → (∃ o, g.get? e = some o ∧ o.cls = .type "StopIteration") → E (.ref e) { s with heap := g }) : wpAny (model prog w) A (Builtin.SmallTypes.nextOf (.ref ti)) Q E s := by
  obtain ⟨a, ha, ca, da⟩ := id h1
  obtain ⟨b, hb, _, nb, db⟩ := h2
  unfold Builtin.SmallTypes.nextOf; refine wpAny_bind (wpAny_callSpecial?_slot (name := Str.ofString "__next__") h1.typeIs F.slot_tuple_iterator_next (wpAny_call_entry F.slot_tuple_iterator_next h1.typeIs F.entry_tuple_iterator_next (?_) (F.args_tuple_iterator_next_1 _)))
  show wpAny _ _ (field (.ref ti) 0 >>= _) _ _ s; refine wpAny_bind (wpAny_field ha da (x := .ref tu) rfl (?_))
  show wpAny _ _ (if (Value.ref tu == Value.none) = true then _ else _) _ _ s; rw [if_neg (show ¬ ((Value.ref tu == Value.none) = true) from Bool.false_ne_true)]
  show wpAny _ _ (field (.ref ti) 1 >>= _) _ _ s; refine wpAny_bind (wpAny_field ha da (x := .int k 0) rfl (?_))
  show wpAny _ _ (seqItems? (.ref tu) >>= _) _ _ s; refine wpAny_bind (wpAny_seqItems hb db (?_)); simp only [Int.toNat_natCast, h3]
  refine wpAny_bind (wpAny_rule (wpAny_bind (wpAny_setField ha da (by simp) (?_)))); show wpAny _ _ (newExc (.type "StopIteration") [] >>= _) _ _ _
  refine wpAny_bind (?_); simp only [newExc, newTuple]; refine wpAny_bind (wpAny_newObj_type (?_) (by size_fits))
  refine wpAny_bind (m := firstArgMember _ _) (wpAny_of_eq (a := Value.none) (by first | rfl | (simp only [firstArgMember]; rfl)) (?_)); refine wpAny_newObj_type (?_) (by size_fits)
  simp only [raiseNew]; refine wpAny_bind (wpAny_handled (?_)); first | rw [show A.in1.handled = none from hh] | rw [hh]
  refine wpAny_bind (wpAny_pure (wpAny_throw (?_))); exact h4 _ _ (((Heap.SameBut.update ..).extBut.push _).push _) ⟨_, Heap.get?_push_size _ rfl, rfl⟩
end
theorem drawsT {prog : Program} {w : World} {A : Around} (hh : A.handled = none) (ti tu : Addr) (ne : tu ≠ ti) (ys : Array Value) : Draws prog w A ti [ti, tu] ys.size (fun i v => ys[i]? = some v) (fun i h => h.IsTupleIter ti tu i ∧ h.IsTuple tu ys) where
  live := fun _ _ st => let ⟨o, e, _⟩ := st.1; ⟨o, e⟩
  frame := fun _ _ _ st k => ⟨st.1.at fun o e => k ti (by simp) o e, st.2.at fun o e => k tu (by simp) o e⟩
  item := fun i s Q E hi st q => tnext st.1 st.2 (y := ys[i]) (by simp [hi]) fun g a b => q _ g s.toks (by simp [hi]) ⟨a, st.2.at fun o e => b.extBut _ _ ne e⟩ b
  done := fun s Q E st q => tend hh st.1 st.2 (by simp) q
structure Ap (z a b i j : Addr) (f g : List Addr) : Prop where
  az : a ≠ z
  bz : b ≠ z
  iz : i ≠ z
  jz : j ≠ z
  ab : a ≠ b
  ai : a ≠ i
  aj : a ≠ j
  bi : b ≠ i
  bj : b ≠ j
  ij : i ≠ j
  fz : z ∉ f
  fb : b ∉ f
  fj : j ∉ f
  gz : z ∉ g
  gb : b ∉ g
  gi : i ∉ g
section
variable {prog : Program} {w : World} {A : Around} {E : Value → Shared → Prop} {s : Shared} {z a b i j : Addr} {f g : List Addr} {n m k : Nat} {P R : Nat → Value → Prop} {S U : Nat → Heap → Prop} {p q : Value}
theorem zitem {Q : Value → Shared → Prop} (D : Draws prog w A i f n P S) (C : Draws prog w A j g m R U) (ap : Ap z a b i j f g) (hz : IsZip s.heap z a b .none) (ha : IsPair s.heap a (.ref i) (.ref j)) (hb : IsPair s.heap b p q) (hS : S k s.heap) (hU : U k s.heap) (hn : k < n) (hm : k < m)
    (h : ∀ x y g' tk, P k x → R k y → IsZip g' z a b (rawInt s.heap.objs.size) → IsPair g' b x y → S (k + 1) g' → U (k + 1) g' → IsPair g' s.heap.objs.size x y → g'.objs.size = s.heap.objs.size + 1 →
      (∀ c o, c ≠ z → c ≠ b → c ≠ i → c ≠ j → s.heap.get? c = some o → g'.get? c = some o) → Q (.ref s.heap.objs.size) { s with heap := g', toks := tk }) :
    wpAny (model prog w) A (Builtin.«zip.__next__» ⟨[.ref z], []⟩) (fun r s' => ∃ y, r = .done (.ret y) ∧ Q y s') E s := by
  show wpAny _ _ (field (.ref z) 2 >>= _) _ _ _; refine wpAny_bind (wpAny_field hz rfl (x := .bool false) rfl (?_))
  show wpAny _ _ (field (.ref z) 3 >>= _) _ _ _; refine wpAny_bind (wpAny_field hz rfl (x := .ref a) rfl (wpAny_bind (wpAny_seqItems ha rfl (?_))))
  show wpAny _ _ (Builtin.SmallTypes.ownedTupleIsFree (.ref z) >>= _) _ _ _; refine wpAny_bind (?_); unfold Builtin.SmallTypes.ownedTupleIsFree
  refine wpAny_bind (wpAny_field hz rfl (x := .none) rfl (wpAny_pure (?_))); simp only [if_true]; refine wpAny_bind (wpAny_rule (wpAny_bind (wpAny_field hz rfl (x := .ref b) rfl (?_))))
  refine wpAny_bind (wpAny_setField_rec hz (by simp) fun g1 z1 t1 => ?_)
  replace z1 : IsZip g1 z a b .ellipsis := z1
  have keep1 : ∀ {c : Addr} {o : Obj}, c ≠ z → s.heap.get? c = some o → g1.get? c = some o := fun n e => t1.extBut _ _ n e
  refine wpAny_bind (?_); simp only [List.zipIdx_cons, List.zipIdx_nil, List.forIn_cons, List.forIn_nil]; refine wpAny_bind (wpAny_bind (wpAny_onRaise (?_)))
  show wpAny _ _ (Builtin.SmallTypes.nextOf (.ref i) >>= _) _ _ _
  refine wpAny_bind (D.item k _ _ _ hn (D.frame _ _ _ hS fun c hc o e => keep1 (fun w' => ap.fz (w' ▸ hc)) e) fun x g2 tk2 Px S2 t2 => wpAny_pure (?_))
  have b2 : IsPair g2 b p q := t2.extBut _ _ ap.bi (keep1 ap.bz hb)
  refine wpAny_bind (wpAny_seqItems b2 rfl (wpAny_bind (wpAny_updateSeq_pair b2 fun g3 b3 t3 => ?_)))
  replace b3 : IsPair g3 b x q := b3
  refine wpAny_bind (wpAny_letGo (wpAny_pure (?_))); refine wpAny_bind (wpAny_bind (wpAny_onRaise (?_)))
  show wpAny _ _ (Builtin.SmallTypes.nextOf (.ref j) >>= _) _ _ _
  have U3 : U k g3 := C.frame _ _ _ hU fun c hc o e => t3.extBut _ _ (fun w' => ap.gb (w' ▸ hc)) (t2.extBut _ _ (fun w' => ap.gi (w' ▸ hc)) (keep1 (fun w' => ap.gz (w' ▸ hc)) e))
  refine wpAny_bind (C.item k _ _ _ hm U3 fun y g4 tk4 Ry U4 t4 => wpAny_pure (?_))
  have b4 : IsPair g4 b x q := t4.extBut _ _ ap.bj b3
  refine wpAny_bind (wpAny_seqItems b4 rfl (wpAny_bind (wpAny_updateSeq_pair b4 fun g5 b5 t5 => ?_)))
  replace b5 : IsPair g5 b x y := b5
  refine wpAny_bind (wpAny_letGo (wpAny_pure (wpAny_pure (?_)))); refine wpAny_bind (wpAny_seqItems b5 rfl (wpAny_bind (wpAny_newTuple (?_))))
  have sz : g5.objs.size = s.heap.objs.size := by rw [t5.1, t4.1, t3.1, t2.1, t1.1]
  have z5 : IsZip g5 z a b .ellipsis := t5.extBut _ _ ap.bz.symm (t4.extBut _ _ ap.jz.symm (t3.extBut _ _ ap.bz.symm (t2.extBut _ _ ap.iz.symm z1)))
  have k5 : ∀ c o, c ≠ z → c ≠ b → c ≠ i → c ≠ j → s.heap.get? c = some o → g5.get? c = some o := fun c o c1 c2 c3 c4 e => t5.extBut _ _ c2 (t4.extBut _ _ c4 (t3.extBut _ _ c2 (t2.extBut _ _ c3 (keep1 c1 e))))
  have S5 : S (k + 1) g5 := D.frame _ _ _ S2 fun c hc o e => t5.extBut _ _ (fun w' => ap.fb (w' ▸ hc)) (t4.extBut _ _ (fun w' => ap.fj (w' ▸ hc)) (t3.extBut _ _ (fun w' => ap.fb (w' ▸ hc)) e))
  have U5 : U (k + 1) g5 := C.frame _ _ _ U4 fun c hc o e => t5.extBut _ _ (fun w' => ap.gb (w' ▸ hc)) e
  have zl : z < g5.objs.size := Heap.lt_size z5
  show wpAny _ _ (Builtin.SmallTypes.ownedTupleHandOut (.ref z) (.ref g5.objs.size) >>= _) _ _ _; refine wpAny_bind (?_); unfold Builtin.SmallTypes.ownedTupleHandOut
  have z6 : IsZip (g5.push { cls := .type "tuple", data := .seq #[x, y] }) z a b .ellipsis := Heap.get?_push_of_some _ z5
  refine wpAny_bind (wpAny_setField_rec z6 (by simp) fun g7 z7 t7 => ?_)
  replace z7 : IsZip g7 z a b (rawInt g5.objs.size) := z7
  refine wpAny_setField_rec z7 (by simp) fun g8 z8 t8 => ?_
  replace z8 : IsZip g8 z a b (rawInt g5.objs.size) := z8
  have up : ∀ c o, c ≠ z → g5.get? c = some o → g8.get? c = some o := fun c o c1 e => t8.extBut _ _ c1 (t7.extBut _ _ c1 (Heap.get?_push_of_some _ e))
  have p8 : IsPair g8 g5.objs.size x y := t8.extBut _ _ (Nat.ne_of_gt zl) (t7.extBut _ _ (Nat.ne_of_gt zl) (Heap.get?_push_size _ rfl))
  have s8 : g8.objs.size = g5.objs.size + 1 := by rw [t8.1, t7.1, Heap.size_push]
  rw [sz] at z8 p8 s8
  refine wpAny_pure ⟨_, rfl, (?_)⟩; show Q (.ref g5.objs.size) _; rw [sz]
  exact h x y g8 _ Px Ry z8 (up _ _ ap.bz b5) (D.frame _ _ _ S5 fun c hc o e => up c o (fun w' => ap.fz (w' ▸ hc)) e) (C.frame _ _ _ U5 fun c hc o e => up c o (fun w' => ap.gz (w' ▸ hc)) e) p8 s8 fun c o c1 c2 c3 c4 e => up c o c1 (k5 c o c1 c2 c3 c4 e)
theorem zend {Q : Fin → Shared → Prop} (D : Draws prog w A i f n P S) (C : Draws prog w A j g m R U) (ap : Ap z a b i j f g) (hz : IsZip s.heap z a b .none) (ha : IsPair s.heap a (.ref i) (.ref j)) (hb : IsPair s.heap b p q) (hS : S k s.heap) (hU : U k s.heap) (hk : (k = n) ∨ (k < n ∧ k = m))
    (h : ∀ g' e, (∀ c o, c ≠ z → c ≠ b → c ≠ i → c ≠ j → s.heap.get? c = some o → g'.get? c = some o) → (∃ o, g'.get? e = some o ∧ o.cls = .type "StopIteration") → ∀ tk, E (.ref e) { s with heap := g', toks := tk }) :
    wpAny (model prog w) A (PySem.Builtin.«zip.__next__» ⟨[.ref z], []⟩) Q E s := by
  show wpAny _ _ (field (.ref z) 2 >>= _) _ _ _; refine wpAny_bind (wpAny_field hz rfl (x := .bool false) rfl (?_))
  show wpAny _ _ (field (.ref z) 3 >>= _) _ _ _; refine wpAny_bind (wpAny_field hz rfl (x := .ref a) rfl (wpAny_bind (wpAny_seqItems ha rfl (?_))))
  show wpAny _ _ (Builtin.SmallTypes.ownedTupleIsFree (.ref z) >>= _) _ _ _; refine wpAny_bind (?_); unfold Builtin.SmallTypes.ownedTupleIsFree
  refine wpAny_bind (wpAny_field hz rfl (x := .none) rfl (wpAny_pure (?_))); simp only [if_true]; refine wpAny_bind (wpAny_rule (wpAny_bind (wpAny_field hz rfl (x := .ref b) rfl (?_))))
  refine wpAny_bind (wpAny_setField_rec hz (by simp) fun g1 z1 t1 => ?_)
  replace z1 : IsZip g1 z a b .ellipsis := z1
  have keep1 : ∀ {c : Addr} {o : Obj}, c ≠ z → s.heap.get? c = some o → g1.get? c = some o := fun n e => t1.extBut _ _ n e
  refine wpAny_bind (?_); simp only [List.zipIdx_cons, List.zipIdx_nil, List.forIn_cons, List.forIn_nil]; refine wpAny_bind (wpAny_bind (wpAny_onRaise (?_)))
  show wpAny _ _ (Builtin.SmallTypes.nextOf (.ref i) >>= _) _ _ _
  have S1 : S k g1 := D.frame _ _ _ hS fun c hc o e => keep1 (fun w' => ap.fz (w' ▸ hc)) e
  rcases hk with hk | ⟨hn, hk⟩
  · subst hk
    refine wpAny_bind (D.done _ _ _ S1 fun g2 e t2 he => ?_)
    obtain ⟨oe, ho, ce⟩ := he
    have z2 : IsZip g2 z a b .ellipsis := t2 _ _ ap.iz.symm z1
    have ez : e ≠ z := fun x => by subst x; rw [z2] at ho; cases ho; simp at ce
    exact wpAny_setField_rec z2 (by simp) fun g3 _ t3 => h g3 e (fun c o c1 _ c3 _ x => t3.extBut _ _ c1 (t2 _ _ c3 (keep1 c1 x))) ⟨oe, t3.extBut _ _ ez ho, ce⟩ _
  · subst hk
    refine wpAny_bind (D.item k _ _ _ hn S1 fun x g2 tk2 Px S2 t2 => wpAny_pure (?_))
    have b2 : IsPair g2 b p q := t2.extBut _ _ ap.bi (keep1 ap.bz hb)
    refine wpAny_bind (wpAny_seqItems b2 rfl (wpAny_bind (wpAny_updateSeq_pair b2 fun g3 b3 t3 => ?_)))
    refine wpAny_bind (wpAny_letGo (wpAny_pure (?_))); refine wpAny_bind (wpAny_bind (wpAny_onRaise (?_)))
    show wpAny _ _ (Builtin.SmallTypes.nextOf (.ref j) >>= _) _ _ _
    have U3 : U k g3 := C.frame _ _ _ hU fun c hc o e => t3.extBut _ _ (fun w' => ap.gb (w' ▸ hc)) (t2.extBut _ _ (fun w' => ap.gi (w' ▸ hc)) (keep1 (fun w' => ap.gz (w' ▸ hc)) e))
    refine wpAny_bind (C.done _ _ _ U3 fun g4 e t4 he => ?_)
    obtain ⟨oe, ho, ce⟩ := he
    have z4 : IsZip g4 z a b .ellipsis := t4 _ _ ap.jz.symm (t3.extBut _ _ ap.bz.symm (t2.extBut _ _ ap.iz.symm z1))
    have ez : e ≠ z := fun x => by subst x; rw [z4] at ho; cases ho; simp at ce
    exact wpAny_setField_rec z4 (by simp) fun g5 _ t5 => h g5 e (fun c o c1 c2 c3 c4 x => t5.extBut _ _ c1 (t4 _ _ c4 (t3.extBut _ _ c2 (t2.extBut _ _ c3 (keep1 c1 x))))) ⟨oe, t5.extBut _ _ ez ho, ce⟩ _
end
open PySem
abbrev tI (t : Addr) : Obj := { cls := .type "tuple_iterator", data := .fields #[.ref t, .int 0 0] }
abbrev tP (u v : Value) : Obj := { cls := .type "tuple", data := .seq #[u, v] }
abbrev tZ (a b : Addr) : Obj := { cls := .type "zip", data := .fields #[.none, .bool false, .bool false, .ref a, .ref b] }
abbrev zH (h : Heap) (t u : Addr) : Heap := ((((h.push (tI t)).push (tI u)).push (tP (.ref h.objs.size) (.ref (h.push (tI t)).objs.size))).push (tP .none .none)).push (tZ ((h.push (tI t)).push (tI u)).objs.size (((h.push (tI t)).push (tI u)).push (tP (.ref h.objs.size) (.ref (h.push (tI t)).objs.size))).objs.size)
theorem znew (t u : Addr) (xs ys : Array Value) : Meets (Builtin.«zip.__new__» ⟨[.type "zip", .ref t, .ref u], []⟩) (fun _ R s => s.heap.IsTuple t xs ∧ s.heap.IsTuple u ys ∧ R (.ok (.ret (.ref ((((s.heap.push (tI t)).push (tI u)).push (tP (.ref s.heap.objs.size) (.ref (s.heap.push (tI t)).objs.size))).push (tP .none .none)).objs.size))) { s with heap := zH s.heap t u }) :=
  .of_wp fun prog w A R s h => by
    obtain ⟨hp, g, d, tk, os⟩ := s; obtain ⟨h1, h2, h⟩ := h
    have hsub := sub_zip
    have L1 : Heap.IsTuple (Shared.heap ⟨hp, g, d, tk, os⟩) t xs := h1
    have L2 : Heap.IsTuple (Shared.heap ⟨hp.push (tI t), g, d, tk, os⟩) u ys := h2.at fun o e => Heap.get?_push_of_some _ e
    wp_walk using wpAny_pyIter_tuple L1, wpAny_pyIter_tuple L2
    exact ⟨_, rfl, h⟩
section
variable {prog : Program} {w : World} {A : Around} {E : Value → Shared → Prop} {s : Shared}
theorem zcall {t u : Addr} {xs ys : Array Value} {Q : Value → Shared → Prop} (h1 : s.heap.IsTuple t xs) (h2 : s.heap.IsTuple u ys)
    (h : ∀ g, IsZip g (s.heap.objs.size + 4) (s.heap.objs.size + 2) (s.heap.objs.size + 3) .none → IsPair g (s.heap.objs.size + 2) (.ref s.heap.objs.size) (.ref (s.heap.objs.size + 1)) → IsPair g (s.heap.objs.size + 3) .none .none →
      g.IsTupleIter s.heap.objs.size t 0 → g.IsTupleIter (s.heap.objs.size + 1) u 0 → (∀ c o, s.heap.get? c = some o → g.get? c = some o) → Q (.ref (s.heap.objs.size + 4)) { s with heap := g }) :
    wpAny (model prog w) A (call (.type "zip") [.ref t, .ref u]) Q E s := by
  refine callType_new F.called_zip (by decide) (F.typeCall_zip_2 _ _) (F.newCall_zip_2 _ _) (fun obj => F.args_object_init_3 obj _ _) F.entry_zip_new (znew t u xs ys) ⟨h1, h2, ?_⟩
  have z1 : (s.heap.push (tI t)).objs.size = s.heap.objs.size + 1 := Heap.size_push ..
  have z2 : ((s.heap.push (tI t)).push (tI u)).objs.size = s.heap.objs.size + 2 := by rw [Heap.size_push, z1]
  have z3 : (((s.heap.push (tI t)).push (tI u)).push (tP (.ref s.heap.objs.size) (.ref (s.heap.push (tI t)).objs.size))).objs.size = s.heap.objs.size + 3 := by rw [Heap.size_push, z2]
  have z4 : ((((s.heap.push (tI t)).push (tI u)).push (tP (.ref s.heap.objs.size) (.ref (s.heap.push (tI t)).objs.size))).push (tP .none .none)).objs.size = s.heap.objs.size + 4 := by rw [Heap.size_push, z3]
  have kp : ∀ c o, s.heap.get? c = some o → (zH s.heap t u).get? c = some o := fun c o x => Heap.get?_push_of_some _ (Heap.get?_push_of_some _ (Heap.get?_push_of_some _ (Heap.get?_push_of_some _ (Heap.get?_push_of_some _ x))))
  have g1 : (zH s.heap t u).get? s.heap.objs.size = some (tI t) := Heap.get?_push_of_some _ (Heap.get?_push_of_some _ (Heap.get?_push_of_some _ (Heap.get?_push_of_some _ (Heap.get?_push_size _ rfl))))
  have g2 : (zH s.heap t u).get? (s.heap.push (tI t)).objs.size = some (tI u) := Heap.get?_push_of_some _ (Heap.get?_push_of_some _ (Heap.get?_push_of_some _ (Heap.get?_push_size _ rfl)))
  have g3 : (zH s.heap t u).get? ((s.heap.push (tI t)).push (tI u)).objs.size = some (tP (.ref s.heap.objs.size) (.ref (s.heap.push (tI t)).objs.size)) := Heap.get?_push_of_some _ (Heap.get?_push_of_some _ (Heap.get?_push_size _ rfl))
  have g4 : (zH s.heap t u).get? (((s.heap.push (tI t)).push (tI u)).push (tP (.ref s.heap.objs.size) (.ref (s.heap.push (tI t)).objs.size))).objs.size = some (tP .none .none) := Heap.get?_push_of_some _ (Heap.get?_push_size _ rfl)
  have g5 : (zH s.heap t u).get? ((((s.heap.push (tI t)).push (tI u)).push (tP (.ref s.heap.objs.size) (.ref (s.heap.push (tI t)).objs.size))).push (tP .none .none)).objs.size = some (tZ ((s.heap.push (tI t)).push (tI u)).objs.size (((s.heap.push (tI t)).push (tI u)).push (tP (.ref s.heap.objs.size) (.ref (s.heap.push (tI t)).objs.size))).objs.size) := Heap.get?_push_size _ rfl
  rw [z4] at g5 ⊢
  rw [z3] at g4 g5
  rw [z2] at g3 g5
  rw [z1] at g2 g3
  exact ⟨⟨_, g5, rfl⟩, h _ g5 g3 g4 ⟨_, g1, rfl, rfl⟩ ⟨_, g2, rfl, rfl⟩ kp⟩
theorem znextI {z a b i j : Addr} {f g : List Addr} {n m k : Nat} {P R : Nat → Value → Prop} {S U : Nat → Heap → Prop} {p q : Value} {Q : Option Value → Shared → Prop} (D : Draws prog w A.in1 i f n P S) (C : Draws prog w A.in1 j g m R U) (ap : Ap z a b i j f g) (hz : IsZip s.heap z a b .none) (ha : IsPair s.heap a (.ref i) (.ref j)) (hb : IsPair s.heap b p q) (hS : S k s.heap) (hU : U k s.heap) (hn : k < n) (hm : k < m)
    (h : ∀ x y g' tk, P k x → R k y → IsZip g' z a b (rawInt s.heap.objs.size) → IsPair g' b x y → S (k + 1) g' → U (k + 1) g' → IsPair g' s.heap.objs.size x y → g'.objs.size = s.heap.objs.size + 1 →
      (∀ c o, c ≠ z → c ≠ b → c ≠ i → c ≠ j → s.heap.get? c = some o → g'.get? c = some o) → Q (some (.ref s.heap.objs.size)) { s with heap := g', toks := tk }) : wpAny (model prog w) A (pyNext (.ref z)) Q E s := by
  have hT : s.TypeIs (.ref z) "zip" := ⟨_, hz, rfl⟩; unfold pyNext
  refine wpAny_bind (wpAny_attempt (wpAny_callSpecial?_slot (name := Str.ofString "__next__") hT F.slot_zip_next (wpAny_call_entry F.slot_zip_next hT F.entry_zip_next (?_) (F.args_zip_next_1 _))))
  refine wpAny_mono (zitem (Q := fun v s' => Q (some v) s') D C ap hz ha hb hS hU hn hm h) (fun fin s' hq => ?_) fun _ _ x => x
  obtain ⟨v, e, hq⟩ := hq
  exact ⟨v, e, wpAny_pure hq⟩
theorem znextE {z a b i j : Addr} {f g : List Addr} {n m k : Nat} {P R : Nat → Value → Prop} {S U : Nat → Heap → Prop} {p q : Value} {Q : Option Value → Shared → Prop} (D : Draws prog w A.in1 i f n P S) (C : Draws prog w A.in1 j g m R U) (ap : Ap z a b i j f g) (hz : IsZip s.heap z a b .none) (ha : IsPair s.heap a (.ref i) (.ref j)) (hb : IsPair s.heap b p q) (hS : S k s.heap) (hU : U k s.heap) (hk : (k = n) ∨ (k < n ∧ k = m))
    (h : ∀ g' tk, (∀ c o, c ≠ z → c ≠ b → c ≠ i → c ≠ j → s.heap.get? c = some o → g'.get? c = some o) → Q none { s with heap := g', toks := tk }) : wpAny (model prog w) A (pyNext (.ref z)) Q E s := by
  have hT : s.TypeIs (.ref z) "zip" := ⟨_, hz, rfl⟩; unfold pyNext
  refine wpAny_bind (wpAny_attempt (wpAny_callSpecial?_slot (name := Str.ofString "__next__") hT F.slot_zip_next (wpAny_call_entry F.slot_zip_next hT F.entry_zip_next (zend D C ap hz ha hb hS hU hk fun g' e kp he tk => ?_) (F.args_zip_next_1 _))))
  obtain ⟨o, ho, hc⟩ := he
  refine wpAny_bind (wpAny_isInstance (T := "StopIteration") (b := true) ⟨o, ho, hc⟩ isSubtype_stop (?_))
  exact wpAny_pure (h _ _ kp)
end
end ZZ
namespace DD
open PySem PySem.Spec PyProof.Rows L2
section
variable {X : Cx} {pins : List (Addr × Obj)} {σ : St} {H : Hp} {s : Shared} {h' : Heap}
theorem inv_drew {t' : Nat} {ch : List Addr} {T : Addr} {vs : List V} {its : List Value} (I : Inv X pins σ H s) (hch : ∀ b ∈ ch, FpOk X pins H b) (hT : s.heap.objs.size ≤ T) (kp : ∀ b o, b ∉ ch → s.heap.get? b = some o → h'.get? b = some o)
    (hz : vs.length ≤ sizeLine) (hv : Vals vs its) (ht : IsTup h' T its.toArray) : Inv X pins σ (upd H T (.tup vs)) { s with heap := h', toks := t' } := by
  have hn : H T = none := I.hok.fresh hT
  have old : ∀ {b : Addr} {o : Obj}, s.heap.get? b = some o → b ≠ T := fun e => Nat.ne_of_lt (Nat.lt_of_lt_of_le (Heap.lt_size e) hT)
  have tr : ∀ {b : Addr} {u : HO}, H b = some u → b ≠ T := fun e => ne_of_none e hn
  have trc : ∀ {b : Addr} {u : HO}, H b = some u → b ∉ ch := fun {b u} e z => by rw [(hch b z).1] at e; cases e
  refine I.step (g' := s.gens) (d' := s.drawn) (ch := ch) (fun b hb => ⟨(hch b hb).2.2.2.1, (hch b hb).2.1, (hch b hb).2.2.2.2.1, (hch b hb).2.2.2.2.2⟩) (fun b o _ _ hc e _ => kp b o hc e) (fun b o _ _ hc e _ => ⟨o.slots, kp b o hc e⟩)
    (fun b o _ e n => by rw [upd_ne (old e)]; exact n) (fun b o hc e => ⟨o, kp b o hc e⟩) (fun b xs e => by rw [upd_ne (tr e)]; exact e) (fun b o u e => by rw [upd_ne (tr e)]; exact e) (fun b ps e => ⟨#[], by rw [upd_ne (tr e), e]; simp⟩) (fun m hm => ?_) (fun b u e => ?_) I.bare
  · obtain ⟨o, es, ep, ho, r⟩ := hm
    exact ⟨o, es, ep, kp _ o (fun z => (hch _ z).2.1 rfl) ho, r⟩
  · by_cases hb : b = T
    · subst hb
      rw [upd_same] at e; cases e
      exact ⟨hz, its, hv, ht⟩
    · rw [upd_ne hb] at e
      refine (I.hok b u e).stay (fun c v hc q => kp c v ?_ q) (fun c q => by rw [upd_ne (tr q)]; exact q) fun c xs q => by rw [upd_ne (tr q)]; exact q
      rcases hc with z | z
      · rw [z]; exact trc e
      · exact trc z
theorem inv_turnL {t' : Nat} {ch : List Addr} (I : Inv X pins σ H s) (hch : ∀ b ∈ ch, FpOk X pins H b) (kp : ∀ b o, b ∉ ch → s.heap.get? b = some o → h'.get? b = some o) : Inv X pins σ H { s with heap := h', toks := t' } := by
  have trc : ∀ {b : Addr} {u : HO}, H b = some u → b ∉ ch := fun {b u} e z => by rw [(hch b z).1] at e; cases e
  refine I.step (g' := s.gens) (d' := s.drawn) (ch := ch) (fun b hb => ⟨(hch b hb).2.2.2.1, (hch b hb).2.1, (hch b hb).2.2.2.2.1, (hch b hb).2.2.2.2.2⟩) (fun b o _ _ hc e _ => kp b o hc e) (fun b o _ _ hc e _ => ⟨o.slots, kp b o hc e⟩)
    (fun b o _ e n => n) (fun b o hc e => ⟨o, kp b o hc e⟩) (fun b xs e => e) (fun b o u e => e) (fun b ps e => ⟨#[], by rw [e]; simp⟩) (fun m hm => ?_) (fun b u e => ?_) I.bare
  · obtain ⟨o, es, ep, ho, r⟩ := hm
    exact ⟨o, es, ep, kp _ o (fun z => (hch _ z).2.1 rfl) ho, r⟩
  · refine (I.hok b u e).stay (fun c v hc q => kp c v ?_ q) (fun _ q => q) fun _ _ q => q
    rcases hc with z | z
    · rw [z]; exact trc e
    · exact trc z
end
theorem cls_ne {h : Heap} {a b : Addr} {o o' : Obj} {n m : String} (e : h.get? a = some o) (c : o.cls = .type n) (e' : h.get? b = some o') (c' : o'.cls = .type m) (d : n ≠ m) : a ≠ b := by
  rintro rfl
  rw [e] at e'; cases e'
  rw [c] at c'; injection c' with q; exact d q
def ItE (K : Fg) (a : Addr) : It :=
  ⟨fun i H => ∃ xs x, SqL K H a xs ∧ xs[i]? = some x, fun i H x H' => ∃ T y, x = .ref T ∧ H T = none ∧ H' = upd H T (.tup [.int i, y]) ∧ ∀ xs, SqL K H a xs → xs[i]? = some y, fun i H => ∃ xs, SqL K H a xs ∧ xs.length = i⟩
theorem turn_enum {P : Program} {w : World} {K : Fg} {elts : List Expr} {k : Nat} {tp : Pos} (a e it : Addr) (hei : e ≠ it) : Turn P w K (.Tuple elts k tp) (ItE K a) [e, it] e (fun i h => (∃ old, IsEnum h e it i old) ∧ h.IsListIter it a i) where
  mem := by simp
  obj := fun i h st b hb => by
    obtain ⟨⟨old, h1⟩, o, h2, h3, h4⟩ := st
    have hb' : b = e ∨ b = it := by simpa using hb
    rcases hb' with rfl | rfl
    · exact ⟨_, h1, fun v z => by cases z⟩
    · exact ⟨o, h2, fun v z => by rw [h4] at z; cases z⟩
  keep := fun i h g st kp => ⟨let ⟨old, h1⟩ := st.1; ⟨old, kp e (by simp) _ h1⟩, st.2.at fun o q => kp it (by simp) o q⟩
  item := by
    intro X hP hw hK hc i pins s σ H E I hf st hg
    subst hP hw hK
    obtain ⟨xs, x, hq, hx⟩ := hg
    obtain ⟨its, rv, p, hz⟩ := I.list hq
    obtain ⟨u, hu, ru⟩ := rv.get hx
    obtain ⟨oa, na, ea, ca, _⟩ := id p
    obtain ⟨⟨old, h1⟩, oi, h2, h3, h4⟩ := id st
    have hae : a ≠ e := cls_ne ea ca h1 rfl (by decide)
    have hai : a ≠ it := cls_ne ea ca h2 h3 (by decide)
    have W := WalksT.enumerate (prog := X.prog) (w := X.w) (A := X.A) (I.ok.hd hc) e it a hei hae hai its.toArray
    have hi : i < its.toArray.size := by
      obtain ⟨q, _⟩ := List.getElem?_eq_some_iff.mp hu
      simpa using q
    refine W.item i s _ _ hi ⟨st.1, st.2, p.isList⟩ fun T vals g tk pt hT isT mid kp => ⟨_, rfl, W.go elts k tp i T _ _ _ mid fun g2 st2 kp2 => ?_⟩
    obtain ⟨t, y, hy, rfl⟩ := pt
    have hy' : y = u := by
      have : its[i]? = some y := by simpa using hy
      rw [hu] at this; exact (Option.some.inj this).symm
    subst hy'
    have isT2 : IsTup g2 T #[.int i t, y] := by
      obtain ⟨o, q1, q2⟩ := isT
      exact ⟨o, kp2 T o (W.apart i T _ mid) q1, q2⟩
    refine ⟨.ref T, upd H T (.tup [.int i, x]), inv_drew (s := s) (t' := tk) I (its := [.int i t, y]) (ch := [e, it]) hf hT (fun b o hb q => kp2 b o hb (kp b o hb q)) (by show 2 ≤ sizeLine; decide) (.cons ⟨t, rfl⟩ (.cons ru .nil)) isT2, rfl, ⟨T, x, rfl, I.hok.fresh hT, rfl, fun ys hys => by rw [I.list_inj hys hq]; exact hx⟩, ⟨st2.1, st2.2.1⟩, fun b hb => ?_⟩
    have hbT : b ≠ T := by
      have hb' : b = e ∨ b = it := by simpa using hb
      rcases hb' with rfl | rfl
      · exact Nat.ne_of_lt (Nat.lt_of_lt_of_le (Heap.lt_size h1) hT)
      · exact Nat.ne_of_lt (Nat.lt_of_lt_of_le (Heap.lt_size h2) hT)
    rw [upd_ne hbT]
    exact (hf b hb).1
  done := by
    intro X hP hw hK hc i pins s σ H E I hf st hg
    subst hP hw hK
    obtain ⟨xs, hq, hx⟩ := hg
    obtain ⟨its, rv, p, hz⟩ := I.list hq
    obtain ⟨oa, na, ea, ca, _⟩ := id p
    obtain ⟨⟨old, h1⟩, oi, h2, h3, h4⟩ := id st
    have hae : a ≠ e := cls_ne ea ca h1 rfl (by decide)
    have hai : a ≠ it := cls_ne ea ca h2 h3 (by decide)
    have W := WalksT.enumerate (prog := X.prog) (w := X.w) (A := X.A) (I.ok.hd hc) e it a hei hae hai its.toArray
    have hl : its.toArray.size = i := by rw [List.size_toArray, ← rv.length]; exact hx
    exact W.done s _ _ (by rw [hl]; exact ⟨st.1, st.2, p.isList⟩) fun g tk kp => ⟨rfl, inv_turnL I hf kp⟩
  self := fun _ _ _ _ _ st h => let ⟨⟨_, h1⟩, _⟩ := st; wpAny_pyIter_enum h1 h
def ItZ (sq : Hp → Addr → List V → Prop) (a b : Addr) : It :=
  ⟨fun i H => ∃ xs ys x y, sq H a xs ∧ sq H b ys ∧ xs[i]? = some x ∧ ys[i]? = some y, fun i H x H' => ∃ T u v, x = .ref T ∧ H T = none ∧ H' = upd H T (.tup [u, v]) ∧ (∀ xs, sq H a xs → xs[i]? = some u) ∧ ∀ ys, sq H b ys → ys[i]? = some v, fun i H => ∃ xs ys, sq H a xs ∧ sq H b ys ∧ (xs.length = i ∨ (i < xs.length ∧ ys.length = i))⟩
theorem fp_ne {X : Cx} {pins : List (Addr × Obj)} {σ : St} {H : Hp} {s : Shared} {a b : Addr} {o : Obj} (I : Inv X pins σ H s) (h : X.K.lookup a = some o) (f : FpOk X pins H b) : a ≠ b := by
  rintro rfl
  have e := I.ok.mod.kin a o h
  rcases f.2.2.2.1 with z | z
  · exact I.ok.noex a o e z
  · exact absurd (Nat.lt_of_lt_of_le (Nat.lt_of_lt_of_le (Heap.lt_size e) I.ok.bsz) z) (Nat.lt_irrefl _)
theorem fp_rd {X : Cx} {pins : List (Addr × Obj)} {H : Hp} {a b : Addr} {u : HO} (h : Rd H a u) (f : FpOk X pins H b) : a ≠ b := by
  rintro rfl
  obtain ⟨o, e⟩ := Rd.some h
  rw [f.1] at e; cases e
structure Dw (K : Fg) (sq : Hp → Addr → List V → Prop) (isI : Heap → Addr → Addr → Nat → Prop) (nm : String) : Prop where
  get : ∀ {X : Cx} {pins σ H s a xs}, X.K = K → Inv X pins σ H s → sq H a xs → ∃ its : List Value, Vals xs its ∧ xs.length ≤ sizeLine ∧ ∃ o, s.heap.get? a = some o ∧ o.cls = .type nm ∧ ∃ n, o.data = .seq its.toArray n
  inj : ∀ {X : Cx} {pins σ H s a xs ys}, X.K = K → Inv X pins σ H s → sq H a xs → sq H a ys → xs = ys
  ne : ∀ {X : Cx} {pins σ H s a xs b}, X.K = K → Inv X pins σ H s → sq H a xs → FpOk X pins H b → a ≠ b
  it : ∀ {h i a k}, isI h i a k → ∃ o, h.get? i = some o ∧ ∃ vs, o.data = .fields vs
  at_ : ∀ {h h' : Heap} {i a k}, isI h i a k → (∀ o, h.get? i = some o → h'.get? i = some o) → isI h' i a k
  dr : ∀ {prog w A} (_ : A.handled = none) (i a : Addr) (_ : a ≠ i) (ys : Array Value), Draws prog w A i [i, a] ys.size (fun k v => ys[k]? = some v) (fun k h => isI h i a k ∧ ∃ o, h.get? a = some o ∧ o.cls = .type nm ∧ ∃ n, o.data = .seq ys n)
theorem dw_list (K : Fg) : Dw K (SqL K) Heap.IsListIter "list" where
  get := fun {X pins σ H s a xs} hK I h => by
    subst hK
    obtain ⟨its, r, ⟨o, n, e, c, _, d⟩, z⟩ := I.list h
    exact ⟨its, r, z, o, e, c, n, d⟩
  inj := fun {X pins σ H s a xs ys} hK I h g => by subst hK; exact I.list_inj h g
  ne := fun {X pins σ H s a xs b} hK I h f => by
    subst hK
    rcases h with h | ⟨o, _, _, hk, _⟩
    · exact fp_rd h f
    · exact fp_ne I hk f
  it := fun {h i a k} ⟨o, e, c, d⟩ => ⟨o, e, _, d⟩
  at_ := fun h k => h.at k
  dr := fun hh i a ne ys => Draws.list hh i a ne ys
theorem dw_tup (K : Fg) : Dw K (SqT K) Heap.IsTupleIter "tuple" where
  get := fun {X pins σ H s a xs} hK I h => by
    subst hK
    obtain ⟨its, r, ⟨o, e, c, n, d⟩, z⟩ := I.tuple h
    exact ⟨its, r, z, o, e, c, n, d⟩
  inj := fun {X pins σ H s a xs ys} hK I h g => by subst hK; exact I.tuple_inj h g
  ne := fun {X pins σ H s a xs b} hK I h f => by
    subst hK
    rcases h with h | ⟨o, _, _, hk, _⟩
    · exact fp_rd h f
    · exact fp_ne I hk f
  it := fun {h i a k} ⟨o, e, c, d⟩ => ⟨o, e, _, d⟩
  at_ := fun h k => h.at k
  dr := fun hh i a ne ys => ZZ.drawsT hh i a ne ys
structure ZA (z p q i j : Addr) : Prop where
  pz : p ≠ z
  qz : q ≠ z
  iz : i ≠ z
  jz : j ≠ z
  pq : p ≠ q
  pi : p ≠ i
  pj : p ≠ j
  qi : q ≠ i
  qj : q ≠ j
  ij : i ≠ j
theorem turn_zip {P : Program} {w : World} {K : Fg} {elts : List Expr} {k : Nat} {tp : Pos} {sq : Hp → Addr → List V → Prop} {isI : Heap → Addr → Addr → Nat → Prop} {nm : String} (W : Dw K sq isI nm) (a b z p q i j : Addr) (ap : ZA z p q i j) :
    Turn P w K (.Tuple elts k tp) (ItZ sq a b) [z, p, q, i, j] z (fun n h => IsZip h z p q .none ∧ IsPair h p (.ref i) (.ref j) ∧ (∃ u v, IsPair h q u v) ∧ isI h i a n ∧ isI h j b n) where
  mem := by simp
  obj := fun n h st c hc => by
    obtain ⟨h1, h2, ⟨u, v, h3⟩, h4, h5⟩ := st
    obtain ⟨oi, ei, vi, di⟩ := W.it h4
    obtain ⟨oj, ej, vj, dj⟩ := W.it h5
    have hc' : c = z ∨ c = p ∨ c = q ∨ c = i ∨ c = j := by simpa using hc
    rcases hc' with rfl | rfl | rfl | rfl | rfl
    · exact ⟨_, h1, fun v z => by cases z⟩
    · exact ⟨_, h2, fun v z => by cases z⟩
    · exact ⟨_, h3, fun v z => by cases z⟩
    · exact ⟨_, ei, fun v z => by rw [di] at z; cases z⟩
    · exact ⟨_, ej, fun v z => by rw [dj] at z; cases z⟩
  keep := fun n h g st kp => by
    obtain ⟨h1, h2, ⟨u, v, h3⟩, h4, h5⟩ := st
    exact ⟨kp z (by simp) _ h1, kp p (by simp) _ h2, ⟨u, v, kp q (by simp) _ h3⟩, W.at_ h4 fun o e => kp i (by simp) o e, W.at_ h5 fun o e => kp j (by simp) o e⟩
  item := by
    intro X hP hw hK hc n pins s σ H E I hf st hg
    subst hP hw
    obtain ⟨xs, ys, x, y, hx, hy, ex, ey⟩ := hg
    obtain ⟨its, rv, hzx, oa, ea, ca, na, da⟩ := W.get hK I hx
    obtain ⟨its2, rv2, hzy, ob, eb, cb, nb, db⟩ := W.get hK I hy
    obtain ⟨u, hu, ru⟩ := rv.get ex
    obtain ⟨v, hv, rw'⟩ := rv2.get ey
    obtain ⟨h1, h2, ⟨u0, v0, h3⟩, h4, h5⟩ := st
    have fa : ∀ c ∈ [z, p, q, i, j], a ≠ c := fun c hc => W.ne hK I hx (hf c hc)
    have fb : ∀ c ∈ [z, p, q, i, j], b ≠ c := fun c hc => W.ne hK I hy (hf c hc)
    have hn : n < its.toArray.size := by obtain ⟨q', _⟩ := List.getElem?_eq_some_iff.mp hu; simpa using q'
    have hm : n < its2.toArray.size := by obtain ⟨q', _⟩ := List.getElem?_eq_some_iff.mp hv; simpa using q'
    have ap' : ZZ.Ap z p q i j [i, a] [j, b] := ⟨ap.pz, ap.qz, ap.iz, ap.jz, ap.pq, ap.pi, ap.pj, ap.qi, ap.qj, ap.ij,
      by simp; exact ⟨ap.iz.symm, (fa z (by simp)).symm⟩, by simp; exact ⟨ap.qi, (fa q (by simp)).symm⟩, by simp; exact ⟨ap.ij.symm, (fa j (by simp)).symm⟩, by simp; exact ⟨ap.jz.symm, (fb z (by simp)).symm⟩, by simp; exact ⟨ap.qj, (fb q (by simp)).symm⟩, by simp; exact ⟨ap.ij, (fb i (by simp)).symm⟩⟩
    refine ZZ.znextI (W.dr (A := X.A.in1) (I.ok.hd hc) i a (fa i (by simp)) its.toArray) (W.dr (A := X.A.in1) (I.ok.hd hc) j b (fb j (by simp)) its2.toArray) ap' h1 h2 h3 ⟨h4, oa, ea, ca, na, da⟩ ⟨h5, ob, eb, cb, nb, db⟩ hn hm fun x' y' g tk px py z1 q1 s1 u1 t1 sz kp => ⟨_, rfl, ?_⟩
    refine wpAny_letOwnedTupleGo_zip z1 fun g2 z2 sb => ?_
    have hx' : x' = u := by
      have : its[n]? = some x' := by simpa using px
      rw [hu] at this; exact (Option.some.inj this).symm
    have hy' : y' = v := by
      have : its2[n]? = some y' := by simpa using py
      rw [hv] at this; exact (Option.some.inj this).symm
    subst hx' hy'
    have zl : z < s.heap.objs.size := Heap.lt_size h1
    have kp2 : ∀ c o, c ∉ [z, q, i, j] → s.heap.get? c = some o → g2.get? c = some o := fun c o hc e => by
      simp at hc
      exact sb.extBut _ _ hc.1 (kp c o hc.1 hc.2.1 hc.2.2.1 hc.2.2.2 e)
    have isT : IsTup g2 s.heap.objs.size #[x', y'] := ⟨_, sb.extBut _ _ (Nat.ne_of_gt zl) t1, rfl, _, rfl⟩
    have hf' : ∀ c ∈ [z, q, i, j], FpOk X pins H c := fun c hc => hf c (by simp at hc ⊢; rcases hc with h | h | h | h <;> simp [h])
    refine ⟨.ref s.heap.objs.size, upd H s.heap.objs.size (.tup [x, y]), inv_drew (s := s) (t' := tk) I (its := [x', y']) (ch := [z, q, i, j]) hf' (Nat.le_refl _) kp2 (by show 2 ≤ sizeLine; decide) (.cons ru (.cons rw' .nil)) isT, rfl, ⟨_, x, y, rfl, I.hok.fresh (Nat.le_refl _), rfl, fun zs hzs => by rw [W.inj hK I hzs hx]; exact ex, fun zs hzs => by rw [W.inj hK I hzs hy]; exact ey⟩, ?_, fun c hc => ?_⟩
    · refine ⟨z2, sb.extBut _ _ ap.pz (kp p _ ap.pz ap.pq ap.pi ap.pj h2), ⟨_, _, sb.extBut _ _ ap.qz q1⟩, W.at_ s1.1 fun o e => sb.extBut _ _ ap.iz e, W.at_ u1.1 fun o e => sb.extBut _ _ ap.jz e⟩
    · have hlt : c < s.heap.objs.size := by
        obtain ⟨oi, ei, _⟩ := W.it h4
        obtain ⟨oj, ej, _⟩ := W.it h5
        simp at hc
        rcases hc with rfl | rfl | rfl | rfl | rfl
        · exact zl
        · exact Heap.lt_size h2
        · exact Heap.lt_size h3
        · exact Heap.lt_size ei
        · exact Heap.lt_size ej
      rw [upd_ne (Nat.ne_of_lt hlt)]
      exact (hf c hc).1
  done := by
    intro X hP hw hK hc n pins s σ H E I hf st hg
    subst hP hw
    obtain ⟨xs, ys, hx, hy, hl⟩ := hg
    obtain ⟨its, rv, hzx, oa, ea, ca, na, da⟩ := W.get hK I hx
    obtain ⟨its2, rv2, hzy, ob, eb, cb, nb, db⟩ := W.get hK I hy
    obtain ⟨h1, h2, ⟨u0, v0, h3⟩, h4, h5⟩ := st
    have fa : ∀ c ∈ [z, p, q, i, j], a ≠ c := fun c hc => W.ne hK I hx (hf c hc)
    have fb : ∀ c ∈ [z, p, q, i, j], b ≠ c := fun c hc => W.ne hK I hy (hf c hc)
    have e1 := rv.length
    have e2 := rv2.length
    have ap' : ZZ.Ap z p q i j [i, a] [j, b] := ⟨ap.pz, ap.qz, ap.iz, ap.jz, ap.pq, ap.pi, ap.pj, ap.qi, ap.qj, ap.ij,
      by simp; exact ⟨ap.iz.symm, (fa z (by simp)).symm⟩, by simp; exact ⟨ap.qi, (fa q (by simp)).symm⟩, by simp; exact ⟨ap.ij.symm, (fa j (by simp)).symm⟩, by simp; exact ⟨ap.jz.symm, (fb z (by simp)).symm⟩, by simp; exact ⟨ap.qj, (fb q (by simp)).symm⟩, by simp; exact ⟨ap.ij, (fb i (by simp)).symm⟩⟩
    have hf' : ∀ c ∈ [z, q, i, j], FpOk X pins H c := fun c hc => hf c (by simp at hc ⊢; rcases hc with h | h | h | h <;> simp [h])
    refine ZZ.znextE (W.dr (A := X.A.in1) (I.ok.hd hc) i a (fa i (by simp)) its.toArray) (W.dr (A := X.A.in1) (I.ok.hd hc) j b (fb j (by simp)) its2.toArray) ap' h1 h2 h3 ⟨h4, oa, ea, ca, na, da⟩ ⟨h5, ob, eb, cb, nb, db⟩ ?_ fun g tk kp => ⟨rfl, inv_turnL I hf' fun c o hc e => ?_⟩
    · simp only [List.size_toArray]
      rcases hl with h | ⟨h, h'⟩
      · left; omega
      · right; omega
    · simp at hc
      exact kp c o hc.1 hc.2.1 hc.2.2.1 hc.2.2.2 e
  self := fun _ _ _ _ _ st h => wpAny_pyIter_zip st.1 h
section
variable {X : Cx} {pos : Pos} {a b c : Expr} {f g h : ME}
theorem de_neg (ha : DE X a f) : DE X (.UnaryOp .USub a pos) (mUn negD f) := de_un un_neg (fun O H dx d vx Q i e q => by
  cases dx <;> first | (simp only [negD, reduceCtorEq] at e; done) | skip
  simp only [negD, Option.some.injEq] at e
  subst e
  rw [Is.int_iff] at i
  exact ⟨_, i, q _ (by rw [Is.int_iff])⟩) ha
def leA : D → D → Option D
  | .int i, .int j => some (.bl (decide (i ≤ j)))
  | .str s, .str t => some (.bl (!decide (t < s)))
  | _, _ => none
theorem op_leS : OpR X (compareOp .LtE) (fun x y H Q => ∃ i j, x = .str i ∧ y = .str j ∧ Q (.bl (!decide (j.cps.toList < i.cps.toList))) H) := by
  intro pins s σ H x y v u Q I rx ry hq
  obtain ⟨i, j, rfl, rfl, q⟩ := hq
  obtain ⟨t, rfl⟩ := rx
  obtain ⟨t', rfl⟩ := ry
  exact PySem.P.le_str ⟨.bl _, H, I, rfl, q⟩
def rLeA : R2 := fun x y H Q => rI0 (fun i j => .bl (decide (i ≤ j))) x y H Q ∨ ∃ i j, x = .str i ∧ y = .str j ∧ Q (.bl (!decide (j.cps.toList < i.cps.toList))) H
theorem op_leA : OpR X (compareOp .LtE) rLeA := op_le.or op_leS
theorem od_leA {K : Fg} : OpD K rLeA leA := by
  intro O H dx dy d vx vy Q ol ix iy e q
  cases dx <;> cases dy <;> first | (simp only [leA, reduceCtorEq] at e; done) | skip
  · simp only [leA, Option.some.injEq] at e
    subst e
    rw [Is.int_iff] at ix iy
    exact .inl ⟨_, _, ix, iy, q _ H (Same.refl H) (by rw [Is.bl_iff])⟩
  · simp only [leA, Option.some.injEq] at e
    subst e
    rw [Is.str_iff] at ix iy
    exact .inr ⟨_, _, ix, iy, q _ H (Same.refl H) (by rw [Is.bl_iff])⟩
def intsD : List D → Option (List Int)
  | [] => some []
  | .int i :: r => (intsD r).map (i :: ·)
  | _ => none
theorem intsD_ok {K : Fg} {O : Addr → Prop} {H : Hp} : ∀ {l : List D} {ns : List Int} {vs : List V}, intsD l = some ns → IsL K O H l vs → vs = ns.map V.int
  | [], ns, vs, e, il => by cases e; unfold IsL at il; subst il; rfl
  | d :: l, ns, vs, e, il => by
    unfold IsL at il
    obtain ⟨v, r, rfl, i1, i2⟩ := il
    cases d <;> first | (simp only [intsD, reduceCtorEq] at e; done) | skip
    simp only [intsD] at e
    obtain ⟨ms, e1, rfl⟩ := map_some e
    rw [Is.int_iff] at i1
    rw [i1, intsD_ok e1 i2]; rfl
def mTupOf (fl : ML) : ME := fun r => (fl r).map .tup
theorem de_tupleOf {p' : Pos} {fl : ML} (hg : Gl X "tuple") (hm : X.mg "tuple" = none) (ha : DB X a fl) (hs : starEach [a] X.env = (false, eval a X.env) :: starEach [] X.env := by rfl) : DE X (.Call (.Name "tuple" p') [a] [] pos) (mTupOf fl) := by
  refine PE.conseq (pe_callTy call_tuple_of hg hm PyProof.Rows.boot_tuple (pa_cons ha pa_nil hs) (he := hs)) fun σ H Q hq => ?_
  obtain ⟨O0, r, d, hR, e, q⟩ := hq
  obtain ⟨l, e1, rfl⟩ := map_some e
  refine ⟨O0, r, l, hR, e1, fun p xs H1 s1 sq il => ⟨p, xs, rfl, .inl ⟨sq, fun t ht => q _ _ (s1.trans (same_upd ht)) ?_⟩⟩⟩
  rw [Is.tup_iff]
  exact ⟨t, xs, rfl, SqT.of upd_same, il.same (same_upd ht) (hR.same s1).ol⟩
theorem db_f {fl : ML} (h : DF X a fl) : DB X a fl := by
  refine PE.conseq h fun σ H Q hq => ?_
  obtain ⟨O0, r, l, hR, e, q⟩ := hq
  refine ⟨O0, r, l, hR, e, fun p xs H1 s1 n1 e1 il => q p xs H1 s1 (SqL.of e1) ?_⟩
  have ol : OLst (fun b => Ow O0 r σ b ∨ b = p) H1 := fun b z => z.elim (fun z => (hR.same s1).ol b z) fun z => by subst z; exact ⟨xs, e1⟩
  exact IsL.mono (Same.kp (Same.refl H1) _) ol (fun a z _ => .inl z) l xs il
end
def sAsg (f : ME) (bd : D → En → Option En) : MS := fun r => (f r).bind fun d => (bd d r).map .nx
theorem ds_asg {X : Cx} {pos : Pos} {tg e : Expr} {f : ME} {bd : D → En → Option En} (he : DE X e f) (hg : DG X tg bd) (hs : swapsWithSole [tg] e pos.line X.env = pure false := by rfl) (hw : swappedStores [tg] e X.env = pure none := by rfl)
    (h1 : (assignEach [tg] X.env).map (·.2) = [assign tg X.env] := by rfl) : DS X (.Assign [tg] e pos) (sAsg f bd) := by
  refine PS.conseq (ps_asg he hg hs hw h1) fun Dn σ H hq => ?_
  obtain ⟨O0, r, fl, hR, e, q⟩ := hq
  obtain ⟨d, e1, e2⟩ := bind_some e
  obtain ⟨r', e3, rfl⟩ := map_some e2
  refine ⟨O0, r, d, hR, e1, fun v H1 s1 i1 => ⟨O0, r, d, r', hR.same s1, i1, e3, fun σ' R' k' => q σ' H1 R' ((Kp.of_same r σ s1).trans k')⟩⟩
open PySem PySem.Spec PyProof.Rows L2 PySem.StrLaws
def cutL {α : Type} (xs : List α) (lo hi : Option Int) : List α := (xs.drop (HT.sIx xs.length 0 lo)).take (HT.sIx xs.length xs.length hi - HT.sIx xs.length 0 lo)
theorem sIx_le' (n d : Nat) (hd : d ≤ n) (o : Option Int) : HT.sIx n d o ≤ n := HT.sIx_le n d hd o
theorem sliceIdx_eq (lo hi : Option Int) (n : Nat) : Builtin.Str.strSliceIndices lo hi 1 n = Builtin.Str.strSliceIndices (some ((HT.sIx n 0 lo : Nat) : Int)) (some ((HT.sIx n n hi : Nat) : Int)) 1 n := by
  have key : ∀ (v : Option Int) (d : Nat), d ≤ n → (match v with | none => (d : Int) | some i => max 0 (min (if i < 0 then i + (n : Int) else i) (n : Int))) = max 0 (min (if ((HT.sIx n d v : Nat) : Int) < 0 then ((HT.sIx n d v : Nat) : Int) + (n : Int) else ((HT.sIx n d v : Nat) : Int)) (n : Int)) := by
    intro v d hd
    have hle := sIx_le' n d hd v
    have h0 : ¬ (((HT.sIx n d v : Nat) : Int) < 0) := by omega
    rw [if_neg h0]
    cases v with
    | none =>
      have e : HT.sIx n d none = d := rfl
      rw [e]; show (d : Int) = _; omega
    | some i =>
      have e : HT.sIx n d (some i) = if i < 0 then (i + (n : Int)).toNat else min i.toNat n := rfl
      show max 0 (min (if i < 0 then i + (n : Int) else i) (n : Int)) = _
      rw [e] at hle ⊢
      split <;> split at hle <;> omega
  have e1 : (1 : Int) > 0 := by omega
  unfold PySem.Builtin.Str.strSliceIndices
  simp only [e1, if_true]
  have k1 := key lo 0 (Nat.zero_le _)
  have k2 := key hi n (Nat.le_refl _)
  cases lo <;> cases hi <;> simp only at k1 k2 ⊢ <;> rw [← k1, ← k2] <;> rfl
theorem sliceText_eq (x : Str) (lo hi : Option Int) : sliceText x lo hi = ⟨(cutL x.cps.toList lo hi).toArray⟩ := by
  have hl : x.cps.toList.length = x.length := by simp [Str.length]
  unfold cutL
  rw [hl]
  have ha := sIx_le' x.length 0 (Nat.zero_le _) lo
  have hb := sIx_le' x.length x.length (Nat.le_refl _) hi
  have e : sliceText x lo hi = sliceText x (some ((HT.sIx x.length 0 lo : Nat) : Int)) (some ((HT.sIx x.length x.length hi : Nat) : Int)) := by
    unfold sliceText
    rw [sliceIdx_eq lo hi x.length]
  rw [e]
  by_cases hab : HT.sIx x.length 0 lo ≤ HT.sIx x.length x.length hi
  · exact sliceText_nat x hab hb
  · have z : HT.sIx x.length x.length hi - HT.sIx x.length 0 lo = 0 := by omega
    rw [z, List.take_zero]
    have em : Builtin.Str.strSliceIndices (some ((HT.sIx x.length 0 lo : Nat) : Int)) (some ((HT.sIx x.length x.length hi : Nat) : Int)) 1 x.length = [] := by
      have e1 : (1 : Int) > 0 := by omega
      unfold PySem.Builtin.Str.strSliceIndices
      simp only [e1, if_true]
      have h0 : ¬ (((HT.sIx x.length 0 lo : Nat) : Int) < 0) := by omega
      have h1 : ¬ (((HT.sIx x.length x.length hi : Nat) : Int) < 0) := by omega
      rw [if_neg h0, if_neg h1]
      unfold PySem.sliceRange
      simp only [e1, if_true]
      split
      · omega
      · rfl
    unfold sliceText
    rw [em]
    split
    · rename_i q
      have q' : x.length = 0 := by have : 0 = x.length := by simpa using q
                                   exact this.symm
      apply Str.ext'
      have : x.cps.size = 0 := q'
      exact Array.eq_empty_of_size_eq_zero this
    · rfl
section
variable {X : Cx} {pos p2 : Pos} {a b : Expr} {f g : ME}
def rSlS : V → Option Int → Option Int → Hp → VK → Prop := fun x lo hi H Q => ∃ z, x = .str z ∧ z.length ≤ sizeLine ∧ Q (.str ⟨(cutL z.cps.toList lo hi).toArray⟩) H
theorem cutL_len {α : Type} (xs : List α) (lo hi : Option Int) : (cutL xs lo hi).length ≤ xs.length := by
  unfold cutL
  rw [List.length_take, List.length_drop]
  omega
theorem sl_str : SlR X rSlS := by
  intro pins s σ H x v vl vu lo hi sl Q I rx hs pl pu hq
  obtain ⟨z, rfl, hz, q⟩ := hq
  obtain ⟨t, rfl⟩ := rx
  refine ⟨"str", _, PySem.F.slot_str_getitem.lookup, typeIs_str _ _ _, ?_⟩
  have main : ∀ (l u : Option (Int × Tok)), l.map (·.1) = lo → u.map (·.1) = hi → s.heap.IsSlice sl l u none → wpAny (model X.prog X.w) X.A (getItem (.str z t) (.ref sl)) (EP X pins σ Q) X.xe s := by
    intro l u hl hu hsl
    refine wpAny_getItem_str_slice hsl rfl ?_
    have e : ∀ t' k, EP X pins σ Q (.str (sliceText z lo hi) t') { s with toks := k } := fun t' k => ⟨.str _, H, I.tok k, ⟨t', rfl⟩, by rw [sliceText_eq]; exact q⟩
    have hle : (sliceText z lo hi).length ≤ sizeLine := by
      rw [sliceText_eq, str_len]
      have := cutL_len z.cps.toList lo hi
      have h2 : z.cps.toList.length = z.length := by simp [Str.length]
      omega
    unfold sliceMade slicePicked
    rw [hl, hu]
    exact post_val_or_str ⟨hle, e⟩
  obtain ⟨o, h1, h2, h3⟩ := hs
  cases pl with
  | none => cases pu with
    | none => exact main none none rfl rfl ⟨o, h1, h2, h3⟩
    | int j tj => exact main none (some (j, tj)) rfl rfl ⟨o, h1, h2, h3⟩
  | int i ti => cases pu with
    | none => exact main (some (i, ti)) none rfl rfl ⟨o, h1, h2, h3⟩
    | int j tj => exact main (some (i, ti)) (some (j, tj)) rfl rfl ⟨o, h1, h2, h3⟩
abbrev MO := En → Option (Option Int)
def oNone : MO := fun _ => some none
def oSome (f : ME) : MO := fun r => (f r).bind fun d => (intD d).map some
def lO (K : Fg) (f : MO) : TO := fun σ H Q => ∃ O0 r o, R K O0 H r σ ∧ f r = some o ∧ ∀ H', Same H H' → Q o H'
def DO (X : Cx) (e : Option Expr) (f : MO) : Prop := PO X e (lO X.K f)
theorem PO.conseq {e : Option Expr} {t t' : TO} (h : PO X e t) (i : ∀ σ H Q, t' σ H Q → t σ H Q) : PO X e t' := fun pins s σ H Q I q => h pins s σ H Q I (i σ H Q q)
theorem do_none : DO X none oNone := PO.conseq po_none fun σ H Q ⟨O0, r, o, hR, e, q⟩ => by
  unfold oNone at e; cases e
  exact q H (Same.refl H)
theorem do_some (ha : DE X a f) : DO X (some a) (oSome f) := PO.conseq (po_some ha) fun σ H Q ⟨O0, r, o, hR, e, q⟩ => by
  obtain ⟨d, e1, e2⟩ := bind_some e
  obtain ⟨i, e3, rfl⟩ := map_some e2
  cases intD_some e3
  exact ⟨O0, r, _, hR, e1, fun v H1 s1 i1 => ⟨i, by rw [Is.int_iff] at i1; exact i1, q H1 s1⟩⟩
def slD (d : D) (lo hi : Option Int) : Option D := match d with
  | .lst l => some (.lst (cutL l lo hi))
  | .tup l => if HT.sIx l.length 0 lo = 0 ∧ HT.sIx l.length l.length hi = l.length then none else some (.tup (cutL l lo hi))
  | .str s => if s.length ≤ sizeLine then some (.str (cutL s lo hi)) else none
  | _ => none
def mSl (f : ME) (lo hi : MO) : ME := fun r => (f r).bind fun d => (lo r).bind fun i => (hi r).bind fun j => slD d i j
def rSlA (K : Fg) : V → Option Int → Option Int → Hp → VK → Prop := fun x lo hi H Q => rSlL K x lo hi H Q ∨ rSlT K x lo hi H Q ∨ rSlS x lo hi H Q
theorem IsL.cut {K : Fg} {O : Addr → Prop} {H : Hp} {l : List D} {xs : List V} (h : IsL K O H l xs) (lo hi : Option Int) : IsL K O H (cutL l lo hi) (cutV xs lo hi) := by
  unfold cutL cutV
  rw [h.length]
  exact (h.drop _).take _
theorem de_sl {lo hi : Option Expr} {fl fh : MO} (ha : DE X a f) (hl : DO X lo fl) (hh : DO X hi fh) : DE X (.Subscript a (.Slice lo hi none p2) pos) (mSl f fl fh) := by
  refine PE.conseq (pe_slice (r := rSlA X.K) (sl_list.or (sl_tup.or sl_str)) ha hl hh) fun σ H Q hq => ?_
  obtain ⟨O0, r, d, hR, e, q⟩ := hq
  obtain ⟨x, e1, e⟩ := bind_some e
  obtain ⟨i, e2, e⟩ := bind_some e
  obtain ⟨j, e3, e⟩ := bind_some e
  refine ⟨O0, r, x, hR, e1, fun v H1 s1 i1 => ⟨O0, r, i, hR.same s1, e2, fun H2 s2 => ⟨O0, r, j, hR.same (s1.trans s2), e3, fun H3 s3 => ?_⟩⟩⟩
  have s13 := (s1.trans s2).trans s3
  have R3 := hR.same s13
  have i3 := i1.same (s2.trans s3) (hR.same s1).ol
  cases x <;> first | (simp only [slD, reduceCtorEq] at e; done) | skip
  · simp only [slD] at e
    split at e
    · rename_i hl'
      cases e
      rw [Is.str_iff] at i3
      refine .inr (.inr ⟨_, i3, by rw [str_len]; exact hl', q _ H3 s13 (by rw [Is.str_iff])⟩)
    · cases e
  · simp only [slD] at e
    split at e
    · cases e
    · rename_i hw
      cases e
      rw [Is.tup_iff] at i3
      obtain ⟨p, xs, rfl, hs, il⟩ := i3
      refine .inr (.inl ⟨p, xs, rfl, hs, by rw [← il.length]; exact hw, fun t ht => q _ _ (s13.trans (same_upd ht)) ?_⟩)
      rw [Is.tup_iff]
      exact ⟨t, _, rfl, SqT.of upd_same, (il.cut i j).same (same_upd ht) R3.ol⟩
  · simp only [slD, Option.some.injEq] at e
    subst e
    rw [Is.lst_iff] at i3
    obtain ⟨p, xs, rfl, hs, il⟩ := i3
    refine .inl ⟨p, xs, rfl, hs.sq, fun t ht => q _ _ (s13.trans (same_upd ht)) ?_⟩
    rw [Is.lst_iff]
    exact ⟨t, _, rfl, .inl ⟨R3.nofresh ht, .inl upd_same⟩, (il.cut i j).same (same_upd ht) R3.ol⟩
end
open PySem PySem.Spec PyProof.Rows L2 PySem.StrLaws
section
variable {prog : Program} {w : World} {A : Around} {E : Value → Shared → Prop} {s : Shared}
theorem rev_ad (n : Nat) : Builtin.Slice.sliceAdjust none none (-1) (n : Int) = ((n : Int) - 1, -1) := by
  unfold Builtin.Slice.sliceAdjust
  simp
theorem rev_pl (n : Nat) : Builtin.Slice.slicePlaces ((n : Int) - 1) (-1) (-1) = n := by
  unfold Builtin.Slice.slicePlaces
  have h1 : ¬ ((-1 : Int) > 0) := by omega
  simp only [h1, if_false]
  split
  · have : -(-1 : Int) = 1 := by omega
    rw [this, Int.ediv_one]; omega
  · omega
theorem rev_ap {sl : Addr} {t : Tok} {n : Nat} {Q : Int × Int × Nat → Shared → Prop} (hs : s.heap.IsSliceOf sl .none .none (.int (-1) t)) (h : Q ((n : Int) - 1, -1, n) s) : wpAny (model prog w) A (Builtin.Slice.sliceApplied (.ref sl) (pure (n : Int))) Q E s := by
  obtain ⟨os, ho, hc, hd⟩ := id hs
  unfold Builtin.Slice.sliceApplied Builtin.Slice.sliceFields
  refine wpAny_bind (wpAny_bind (wpAny_field ho hd (x := .none) rfl (wpAny_bind (wpAny_field ho hd (x := .none) rfl (wpAny_bind (wpAny_field ho hd (x := .int (-1) t) rfl (wpAny_pure (?_))))))))
  refine wpAny_bind (slicePart_int (?_)); show wpAny _ _ (if ((-1 : Int) == 0) = true then _ else _) _ _ s; rw [if_neg (by decide)]
  refine wpAny_bind (slicePart_none (wpAny_bind (slicePart_none (wpAny_bind (wpAny_pure (?_))))))
  show wpAny _ _ (match Builtin.Slice.sliceAdjust none none (-1) (n : Int) with | (lo, hi) => pure (lo, (-1 : Int), Builtin.Slice.slicePlaces lo hi (-1))) _ _ s
  rw [rev_ad n]; show wpAny _ _ (pure ((n : Int) - 1, (-1 : Int), Builtin.Slice.slicePlaces ((n : Int) - 1) (-1) (-1))) _ _ s; rw [rev_pl]
  exact wpAny_pure h
theorem fm_map {α β : Type} {F : α → Option β} {G : α → β} : ∀ (l : List α), (∀ m ∈ l, F m = some (G m)) → l.filterMap F = l.map G
  | [], _ => rfl
  | a :: l, h => by
    rw [List.filterMap_cons, h a List.mem_cons_self, List.map_cons, fm_map l fun m hm => h m (List.mem_cons_of_mem _ hm)]
theorem rev_pick (xs : Array Value) : ((List.range xs.size).filterMap fun (m : Nat) => xs[((xs.size : Int) - 1 + (m : Int) * (-1)).toNat]?).toArray = xs.toList.reverse.toArray := by
  congr 1
  apply List.ext_getElem?
  intro k
  have e : ∀ m, m < xs.size → xs[((xs.size : Int) - 1 + (m : Int) * (-1)).toNat]? = some (xs.toList.reverse.getD m .none) := by
    intro m hm
    have h1 : ((xs.size : Int) - 1 + (m : Int) * (-1)).toNat = xs.size - 1 - m := by omega
    rw [h1, List.getD_eq_getElem?_getD, List.getElem?_reverse (by simpa using hm)]
    have h2 : xs.size - 1 - m < xs.size := by omega
    simp [h2]
  have e2 : (List.range xs.size).filterMap (fun (m : Nat) => xs[((xs.size : Int) - 1 + (m : Int) * (-1)).toNat]?) = (List.range xs.size).map fun m => xs.toList.reverse.getD m .none := by
    exact fm_map _ fun m hm => e m (List.mem_range.mp hm)
  rw [e2, List.getElem?_map]
  by_cases hk : k < xs.size
  · rw [List.getElem?_range hk, List.getElem?_eq_getElem (by simpa using hk)]
    simp [List.getD_eq_getElem?_getD, hk]
  · rw [List.getElem?_eq_none (by simpa using hk), List.getElem?_eq_none (by simpa using hk)]; rfl
theorem rev_tup {t sl : Addr} {its : Array Value} {tk : Tok} {Q : Value → Shared → Prop} (ht : IsTup s.heap t its) (hs : s.heap.IsSliceOf sl .none .none (.int (-1) tk)) (hsz : its.size ≤ sizeLine)
    (h : Q (.ref s.heap.objs.size) { s with heap := s.heap.push { cls := .type "tuple", data := .seq its.toList.reverse.toArray } }) : wpAny (model prog w) A (getItem (.ref t) (.ref sl)) Q E s := by
  have hz : sizeOk (.seq its.toList.reverse.toArray) := by show its.toList.reverse.toArray.size ≤ sizeLine; simpa using hsz
  obtain ⟨os, ho, hc, hd⟩ := id hs
  have hT : s.TypeIs (.ref sl) "slice" := ⟨os, ho, hc⟩
  unfold getItem
  try with_reducible refine wpAny_holding ?_
  first | refine wpAny_bind (wpAny_pure ?_) | skip
  refine wpAny_bind (wpAny_sequenceKey ht.typeIs (by decide) ?_)
  refine wpAny_bind (wpAny_callSpecial?_slot (name := Str.ofString "__getitem__") ht.typeIs PyProof.Rows.slot_tuple_getitem (wpAny_call_entry PyProof.Rows.slot_tuple_getitem ht.typeIs entry_tuple_getitem (?_) (args_tuple_getitem _ _)))
  show wpAny _ _ (Builtin.Tuple.tupleItemsOf (.ref t) >>= _) _ _ s; refine wpAny_bind (tupleItemsOf_ ht (wpAny_bind (wpAny_typeOf hT (?_)))); rw [if_pos (by decide)]; refine wpAny_bind (rev_ap hs (?_))
  show wpAny _ _ (if (((its.size : Int) - 1) == 0 && (-1 : Int) == 1 && its.size == its.size) = true then _ else _) _ _ s
  rw [if_neg (by simp), rev_pick]
  first
    | exact wpAny_bind (m := Builtin.Tuple.tupleExact _) (wpAny_newObj_type (wpAny_pure ⟨_, rfl, wpAny_pure h⟩) hz)
    | exact wpAny_bind (m := Builtin.Tuple.tupleExact _) (wpAny_newObj_type (wpAny_bind (wpAny_pure (wpAny_pure ⟨_, rfl, wpAny_pure h⟩))) hz)
    | exact wpAny_bind (wpAny_bind (m := Builtin.Tuple.tupleExact _) (wpAny_newObj_type (wpAny_pure (wpAny_pure ⟨_, rfl, wpAny_pure h⟩)) hz))
    | exact wpAny_bind (wpAny_bind (m := Builtin.Tuple.tupleExact _) (wpAny_newObj_type (wpAny_pure ⟨_, rfl, wpAny_pure h⟩) hz))
end
section
variable {X : Cx} {pos p2 p3 : Pos} {a b : Expr} {f g : ME} {j : Nat}
def tRev (K : Fg) (ta : TE) : TE := fun σ H Q => ta σ H fun x H1 => (∃ p xs, x = .ref p ∧ SqL K H1 p xs ∧ ∀ q, H1 q = none → Q (.ref q) (upd H1 q (.lst xs.reverse))) ∨ (∃ p xs, x = .ref p ∧ SqT K H1 p xs ∧ ∀ q, H1 q = none → Q (.ref q) (upd H1 q (.tup xs.reverse)))
theorem pe_rev {ta : TE} (he : PE X a ta) : PE X (.Subscript a (.Slice none none (some (.UnaryOp .USub (.Constant (.int 1) j p3) pos)) p2) pn) (tRev X.K ta) := by
  intro pins s σ H Q I h
  refine Subscript_ (thn (he pins s σ H _ I h) fun v s1 ⟨x, H1, I1, r1, q1⟩ => ?_)
  refine wpAny_Slice ?_
  rw [evalPart_none]
  refine wpAny_pure (wpAny_pure ?_); rw [evalPart_some]
  have hst : PE X (.UnaryOp .USub (.Constant (.int 1) j p3) pos) (tUn (rU fun i => .int (-i)) (tC (.int 1))) := pe_un un_neg pe_int
  refine thn (hst pins s1 σ H1 (fun w H' => w = .int (-1) ∧ H' = H1) I1 ⟨1, rfl, rfl, rfl⟩) fun u s2 ⟨y, H2, I2, r2, q2, eH⟩ => ?_
  subst eH q2
  obtain ⟨t, rfl⟩ := r2
  have I4 : Inv X pins σ H2 { s2 with heap := s2.heap.push { cls := .type "slice", data := .fields #[.none, .none, .int (-1) t] } } := I2.kept (t' := s2.toks) fun b ob q => Heap.get?_push_of_some _ q
  have hsl : ({ s2 with heap := s2.heap.push { cls := .type "slice", data := .fields #[.none, .none, .int (-1) t] } } : Shared).heap.IsSliceOf s2.heap.objs.size .none .none (.int (-1) t) := Heap.IsSliceOf.new ..
  rcases q1 with ⟨p, xs, rfl, hx, q⟩ | ⟨p, xs, rfl, hx, q⟩
  · cases r1
    obtain ⟨its, r, pl, hz⟩ := I4.list hx
    have hlen := r.length
    refine tail_any (ops := [.ref p, .ref s2.heap.objs.size]) pl.isList.typeIs slot_list_getitem.lookup (wpAny_getItem_list_slice pl.isList hsl .none .none (.int (-1) t) (by simp) ?_ (by simp only [List.size_toArray]; omega)) (by with_unfolding_all rfl)
    rw [PySem.W.krv_pick]
    exact ⟨.ref _, _, I4.lnew (t' := s2.toks) r.reverse (by rw [List.length_reverse]; exact hz), rfl, q _ I4.fresh⟩
  · cases r1
    obtain ⟨its, r, pl, hz⟩ := I4.tuple hx
    have hlen := r.length
    refine tail_any (ops := [.ref p, .ref s2.heap.objs.size]) pl.typeIs PyProof.Rows.slot_tuple_getitem.lookup (rev_tup pl hsl (by simp only [List.size_toArray]; omega) ?_) (by with_unfolding_all rfl)
    refine ⟨.ref _, _, I4.laid (t' := s2.toks) (o := .tup xs.reverse) (fun b ob q => Heap.get?_push_of_some _ q) (Nat.le_refl _) ?_, rfl, q _ (I4.hok.fresh (Nat.le_refl _))⟩
    exact ⟨by rw [List.length_reverse]; exact hz, _, r.reverse, IsTup.new _ _⟩
def revD : D → Option D
  | .lst l => some (.lst l.reverse)
  | .tup l => some (.tup l.reverse)
  | _ => none
theorem de_rev (ha : DE X a f) : DE X (.Subscript a (.Slice none none (some (.UnaryOp .USub (.Constant (.int 1) j p3) pos)) p2) pn) (mUn revD f) := by
  refine PE.conseq (pe_rev ha) fun σ H Q hq => ?_
  obtain ⟨O0, r, d, hR, e, q⟩ := hq
  obtain ⟨x, e1, e2⟩ := bind_some e
  refine ⟨O0, r, x, hR, e1, fun v H1 s1 i1 => ?_⟩
  have R1 := hR.same s1
  cases x <;> first | (simp only [revD, reduceCtorEq] at e2; done) | skip
  · simp only [revD, Option.some.injEq] at e2
    subst e2
    rw [Is.tup_iff] at i1
    obtain ⟨p, xs, rfl, hs, il⟩ := i1
    refine .inr ⟨p, xs, rfl, hs, fun t ht => q _ _ (s1.trans (same_upd ht)) ?_⟩
    rw [Is.tup_iff]
    exact ⟨t, _, rfl, SqT.of upd_same, il.reverse.same (same_upd ht) R1.ol⟩
  · simp only [revD, Option.some.injEq] at e2
    subst e2
    rw [Is.lst_iff] at i1
    obtain ⟨p, xs, rfl, hs, il⟩ := i1
    refine .inl ⟨p, xs, rfl, hs.sq, fun t ht => q _ _ (s1.trans (same_upd ht)) ?_⟩
    rw [Is.lst_iff]
    exact ⟨t, _, rfl, .inl ⟨R1.nofresh ht, .inl upd_same⟩, il.reverse.same (same_upd ht) R1.ol⟩
def strsD : List D → Option (List (List Nat))
  | [] => some []
  | .str s :: r => (strsD r).map (s :: ·)
  | _ => none
theorem strsD_ok {K : Fg} {O : Addr → Prop} {H : Hp} : ∀ {l : List D} {ss : List (List Nat)} {vs : List V}, strsD l = some ss → IsL K O H l vs → vs = ss.map fun s => V.str ⟨s.toArray⟩
  | [], ss, vs, e, il => by cases e; unfold IsL at il; subst il; rfl
  | d :: l, ss, vs, e, il => by
    unfold IsL at il
    obtain ⟨v, r, rfl, i1, i2⟩ := il
    cases d <;> first | (simp only [strsD, reduceCtorEq] at e; done) | skip
    simp only [strsD] at e
    obtain ⟨ms, e1, rfl⟩ := map_some e
    rw [Is.str_iff] at i1
    rw [i1, strsD_ok e1 i2]; rfl
end
open PySem PySem.Spec PyProof.Rows L2 PySem.StrLaws PySem.Builtin.Str
section
variable {X : Cx} {a b : Expr} {f g : ME} {p pos : Pos} {elts : List Expr} {k : Nat} {tp : Pos}
def z2 (F : V → V → Hp → Prop) : List V → Hp → Prop
  | [x, y], H => F x y H
  | _, _ => False
theorem z2_inv {F : V → V → Hp → Prop} : ∀ {vs : List V} {H : Hp}, z2 F vs H → ∃ x y, vs = [x, y] ∧ F x y H
  | [x, y], _, h => ⟨x, y, rfl, h⟩
  | [], _, h => h.elim
  | [_], _, h => h.elim
  | _ :: _ :: _ :: _, _, h => h.elim
def z1 (F : V → Hp → Prop) : List V → Hp → Prop
  | [x], H => F x H
  | _, _ => False
theorem z1_inv {F : V → Hp → Prop} : ∀ {vs : List V} {H : Hp}, z1 F vs H → ∃ x, vs = [x] ∧ F x H
  | [x], _, h => ⟨x, rfl, h⟩
  | [], _, h => h.elim
  | _ :: _ :: _, _, h => h.elim
theorem adn (n : Nat) {i j : Nat} (h : i ≠ j) : @Ne Addr (n + i : Nat) (n + j : Nat) := fun e => h (Nat.add_left_cancel (show n + i = n + j from e))
theorem adn0 (n : Nat) {j : Nat} (h : 0 ≠ j) : @Ne Addr (n : Nat) (n + j : Nat) := fun e => h (Nat.add_left_cancel (show n + 0 = n + j from e))
theorem za5 (n : Nat) : ZA (n + 4) (n + 2) (n + 3) n (n + 1) := ⟨adn n (by decide), adn n (by decide), adn0 n (by decide), adn n (by decide), adn n (by decide), (adn0 n (by decide)).symm, adn n (by decide), (adn0 n (by decide)).symm, adn n (by decide), adn0 n (by decide)⟩
def zipD (l m : List D) : List D := List.zipWith (fun x y => .tup [x, y]) l m
theorem zip_get {l m : List D} {i : Nat} {d : D} (h : (zipD l m)[i]? = some d) : ∃ x y, l[i]? = some x ∧ m[i]? = some y ∧ d = .tup [x, y] := by
  unfold zipD at h
  rw [List.getElem?_zipWith] at h
  cases e1 : l[i]? with
  | none => rw [e1] at h; cases h
  | some x =>
    cases e2 : m[i]? with
    | none => rw [e1, e2] at h; cases h
    | some y => rw [e1, e2] at h; cases h; exact ⟨x, y, rfl, rfl, rfl⟩
theorem yl_zip {K : Fg} {O M : Addr → Prop} {sq : Hp → Addr → List V → Prop} (mo : ∀ a, M a → O a) {H : Hp} {u v : Addr} {xs ys : List V} {l m : List D} (ol : OLst O H) (kx : ∀ H1, Keep M H H1 → sq H1 u xs) (ky : ∀ H1, Keep M H H1 → sq H1 v ys)
    (il : IsL K O H l xs) (im : IsL K O H m ys) : Ylds K O M H (ItZ sq u v) (zipD l m) := by
  intro i H1 O' kp oo
  have kp' : Keep O H H1 := fun b o e n => kp b o e fun z => n (mo b z)
  have hlen : (zipD l m).length = min l.length m.length := by simp [zipD]
  refine ⟨fun hi => ⟨?_, fun x H' y => ?_⟩, fun hi => ⟨xs, ys, kx H1 kp, ky H1 kp, ?_⟩⟩
  · obtain ⟨d, e⟩ := get_of_lt hi
    obtain ⟨dx, dy, e1, e2, _⟩ := zip_get e
    obtain ⟨vx, q1, _⟩ := il.get e1
    obtain ⟨vy, q2, _⟩ := im.get e2
    exact ⟨xs, ys, vx, vy, kx H1 kp, ky H1 kp, q1, q2⟩
  · obtain ⟨T, p, q, rfl, nT, rfl, h1, h2⟩ := y
    refine ⟨same_upd nT, fun d e => ?_⟩
    obtain ⟨dx, dy, e1, e2, rfl⟩ := zip_get e
    obtain ⟨vx, q1, i1⟩ := il.get e1
    obtain ⟨vy, q2, i2⟩ := im.get e2
    have p1 := h1 xs (kx H1 kp)
    have p2 := h2 ys (ky H1 kp)
    rw [q1] at p1; rw [q2] at p2
    cases p1; cases p2
    have kk : Keep O H (upd H1 T (.tup [p, q])) := fun b o e' n => by
      have := kp' b o e' n
      rw [upd_ne (ne_of_none this nT)]; exact this
    rw [Is.tup_iff]
    exact ⟨T, _, rfl, SqT.of upd_same, .cons (Is.mono kk ol oo _ _ i1) (.cons (Is.mono kk ol oo _ _ i2) .nil)⟩
  · have e1 := il.length
    have e2 := im.length
    rw [hlen] at hi
    omega
theorem keepL {K : Fg} {O M : Addr → Prop} (mo : ∀ a, M a → O a) {H : Hp} {a : Addr} {xs : List V} (h : LsAt K O H a xs) : ∀ H1, Keep M H H1 → SqL K H1 a xs := fun H1 k => h.imp (fun z => Rd.keep k (fun y => z.1 (mo _ y)) z.2) id
theorem keepT {K : Fg} {O M : Addr → Prop} (mo : ∀ a, M a → O a) {H : Hp} {a : Addr} {xs : List V} (ol : OLst O H) (h : SqT K H a xs) : ∀ H1, Keep M H H1 → SqT K H1 a xs := fun H1 k => SqT.keep (fun b o e n => k b o e fun z => n (mo b z)) ol h
theorem pi_enum {ta : TE} (hg : Gl X "enumerate") (hm : X.mg "enumerate" = none) (ha : PE X a ta) (hs : starEach [a] X.env = [(false, eval a X.env)] := by rfl) :
    PI X (.Tuple elts k tp) (.Call (.Name "enumerate" p) [a] [] pos) (fun σ H R => ta σ H fun x H1 => ∃ u, x = .ref u ∧ (∃ xs, SqL X.K H1 u xs) ∧ R (ItE X.K u) H1) := by
  intro pins s σ H R I h
  have hA : PA X [a] (tCons ta tNil) := pa_cons ha pa_nil (by rw [hs]; rfl)
  refine Call_ (ld_blt I hg hm PyProof.Rows.boot_enumerate (PyProof.Rows.callWith_type1 (thn (hA pos pins s σ H (z1 fun x H1 => ∃ u, x = .ref u ∧ (∃ xs, SqL X.K H1 u xs) ∧ R (ItE X.K u) H1) I h) fun us s1 ⟨vs, H1, I1, r1, q1⟩ => ?_) hs rfl))
  obtain ⟨_, rfl, u, rfl, ⟨xs, hx⟩, q⟩ := z1_inv q1
  obtain ⟨uu, rfl, ru⟩ := Vals.one r1
  cases ru
  obtain ⟨its, _, pl, _⟩ := I1.list hx
  refine call_enumerate_list pl.isList fun h' z1 z2 _ kp => wpAny_pyIter_enum z1 ?_
  refine ⟨_, [s1.heap.objs.size + 1, s1.heap.objs.size], _, _, H1, rfl, I1.kept (t' := s1.toks) kp, turn_enum u _ _ (adn0 _ (by decide)).symm, ⟨⟨_, z1⟩, z2⟩, fun b hb => ?_, q⟩
  have hle : s1.heap.objs.size ≤ b := by
    simp only [List.not_mem_nil, List.mem_cons, or_false] at hb
    rcases hb with h | h
    · rw [h]; exact Nat.le_add_right _ _
    · rw [h]; exact Nat.le_refl _
  exact I1.fpOk hle (I1.hok.fresh hle)
def enumD (l : List D) : List D := l.zipIdx.map fun p => .tup [.int (p.2 : Nat), p.1]
def mEnum (f : ME) : ML := fun r => (f r).bind fun d => match d with
  | .lst l => some (enumD l)
  | _ => none
theorem enum_get {l : List D} {i : Nat} {d : D} (h : (enumD l)[i]? = some d) : ∃ x, l[i]? = some x ∧ d = .tup [.int i, x] := by
  unfold enumD at h
  rw [List.getElem?_map, List.getElem?_zipIdx] at h
  cases e1 : l[i]? with
  | none => rw [e1] at h; cases h
  | some x => rw [e1] at h; simp at h; exact ⟨x, rfl, h.symm⟩
theorem di_enum (hg : Gl X "enumerate") (hm : X.mg "enumerate" = none) (ha : DE X a f) (hs : starEach [a] X.env = [(false, eval a X.env)] := by rfl) : DI X (.Tuple elts k tp) (.Call (.Name "enumerate" p) [a] [] pos) (mEnum f) := by
  refine PI.conseq (pi_enum hg hm ha hs) fun σ H Rr hq => ?_
  obtain ⟨O0, r, ds, hR, e, q⟩ := hq
  obtain ⟨x, e1, e⟩ := bind_some e
  refine ⟨O0, r, x, hR, e1, fun v1 H1 s1 i1 => ?_⟩
  have R1 := hR.same s1
  cases x <;> first | (simp only [reduceCtorEq] at e; done) | skip
  rename_i l
  simp only [Option.some.injEq] at e
  subst e
  rw [Is.lst_iff] at i1
  obtain ⟨u, xs, rfl, hx, il⟩ := i1
  refine ⟨u, rfl, ⟨xs, hx.sq⟩, q _ H1 s1 ?_⟩
  intro i H2 O' kp oo
  have kp' : Keep (Ow O0 r σ) H1 H2 := fun b o e n => kp b o e fun z => n (.inr z.own)
  have sq2 := keepL (M := MutAt r σ) (fun a z => .inr z.own) hx H2 kp
  have hlen : (enumD l).length = l.length := by simp [enumD]
  refine ⟨fun hi => ⟨?_, fun y H' yy => ?_⟩, fun hi => ⟨xs, sq2, by rw [← il.length, ← hlen]; exact hi.symm⟩⟩
  · obtain ⟨d, ed⟩ := get_of_lt hi
    obtain ⟨dx, ex, _⟩ := enum_get ed
    obtain ⟨vx, q1, _⟩ := il.get ex
    exact ⟨xs, vx, sq2, q1⟩
  · obtain ⟨T, w, rfl, nT, rfl, h1⟩ := yy
    refine ⟨same_upd nT, fun d ed => ?_⟩
    obtain ⟨dx, ex, rfl⟩ := enum_get ed
    obtain ⟨vx, q1, i1⟩ := il.get ex
    have p1 := h1 xs sq2
    rw [q1] at p1
    cases p1
    have kk : Keep (Ow O0 r σ) H1 (upd H2 T (.tup [.int i, w])) := fun b o e' n => by
      have := kp' b o e' n
      rw [upd_ne (ne_of_none this nT)]; exact this
    rw [Is.tup_iff]
    exact ⟨T, _, rfl, SqT.of upd_same, .cons (by rw [Is.int_iff]) (.cons (Is.mono kk R1.ol oo _ _ i1) .nil)⟩
end
def frZ (i : Nat) (r : En) : Option En := match r[i]? with
  | some (.o l) => some (r.set i (.z l))
  | _ => none
def unZ (i : Nat) (r : En) : Option En := match r[i]? with
  | some (.z l) => some (r.set i (.o l))
  | _ => none
def unF (i : Nat) : Fl → Option Fl
  | .nx r => (unZ i r).map .nx
  | .bk r => (unZ i r).map .bk
  | .ct r => (unZ i r).map .ct
  | .rt d r => (unZ i r).map (.rt d)
  | .rf _ _ => none
def sZ (i : Nat) (g : MS) : MS := fun r => (frZ i r).bind fun r1 => (g r1).bind (unF i)
theorem R.swap {K : Fg} {O0 : Addr → Prop} {H : Hp} {r : En} {σ : St} {i : Nat} {l : List D} {y : Sl} (h : R K O0 H r σ) (hy : (r[i]? = some (.o l) ∧ y = .z l) ∨ (r[i]? = some (.z l) ∧ y = .o l)) : R K O0 H (r.set i y) σ ∧ ∀ b, OwnAt (r.set i y) σ b ↔ OwnAt r σ b := by
  have eo : (r[i]?).bind Sl.own = some l := by rcases hy with ⟨e, _⟩ | ⟨e, _⟩ <;> rw [e] <;> rfl
  have yo : y.own = some l := by rcases hy with ⟨_, e⟩ | ⟨_, e⟩ <;> rw [e] <;> rfl
  have hi : i < r.length := by
    rcases hy with ⟨e, _⟩ | ⟨e, _⟩ <;> exact (List.getElem?_eq_some_iff.mp e).1
  have own : ∀ j, ((r.set i y)[j]?).bind Sl.own = (r[j]?).bind Sl.own := fun j => by
    by_cases hj : i = j
    · subst hj; rw [get_set_eq hi, eo]; exact yo
    · rw [get_set_ne hj]
  have at_ : ∀ b, OwnAt (r.set i y) σ b ↔ OwnAt r σ b := fun b => ⟨fun ⟨j, m, e, q⟩ => ⟨j, m, by rw [← own j]; exact e, q⟩, fun ⟨j, m, e, q⟩ => ⟨j, m, by rw [own j]; exact e, q⟩⟩
  have ow : ∀ b, Ow O0 (r.set i y) σ b → H b ≠ none → Ow O0 r σ b := fun b z _ => z.imp id (at_ b).mp
  refine ⟨⟨by simp [h.len], fun j d ej => ?_, fun j m ej => ?_, fun j k b m n e4 e5 => ?_, h.o0, fun j m b ej q => ?_, fun j m b ej q => ?_⟩, at_⟩
  · have hj : i ≠ j := fun z => by subst z; rw [get_set_eq hi] at ej; cases ej; cases yo
    rw [get_set_ne hj] at ej
    obtain ⟨v, q1, q2⟩ := h.val j d ej
    exact ⟨v, q1, Is.mono (Same.kp (Same.refl H) _) h.ol ow _ _ q2⟩
  · rw [own j] at ej
    obtain ⟨b, ys, q1, q2, q3⟩ := h.own j m ej
    exact ⟨b, ys, q1, q2, IsL.mono (Same.kp (Same.refl H) _) h.ol ow _ _ q3⟩
  · rw [own j] at e4
    rw [own k] at e5
    exact h.apart j k b m n e4 e5
  · by_cases hj : i = j
    · subst hj
      rcases hy with ⟨e, _⟩ | ⟨e, _⟩
      · exact h.loc i l b (.inl e) q
      · exact h.loc i l b (.inr e) q
    · rw [get_set_ne hj] at ej
      exact h.loc j m b ej q
  · by_cases hj : i = j
    · subst hj
      rw [get_set_eq hi] at ej
      rcases hy with ⟨_, e⟩ | ⟨_, e⟩ <;> rw [e] at ej <;> cases ej
    · rw [get_set_ne hj] at ej
      exact h.par j m b ej q
theorem frZ_some {i : Nat} {r r1 : En} (e : frZ i r = some r1) : ∃ l, r[i]? = some (.o l) ∧ r1 = r.set i (.z l) := by
  unfold frZ at e
  split at e
  · rename_i l h; cases e; exact ⟨l, h, rfl⟩
  · cases e
theorem unZ_some {i : Nat} {r r1 : En} (e : unZ i r = some r1) : ∃ l, r[i]? = some (.z l) ∧ r1 = r.set i (.o l) := by
  unfold unZ at e
  split at e
  · rename_i l h; cases e; exact ⟨l, h, rfl⟩
  · cases e
theorem Kp.froze {K : Fg} {O0 : Addr → Prop} {H H' : Hp} {r r1 r2 r3 : En} {σ σ2 : St} {i : Nat} (hR : R K O0 H r σ) (e : frZ i r = some r1) (k : Kp H r1 σ H' r2 σ2) (R2 : R K O0 H' r2 σ2) (e' : unZ i r2 = some r3) : R K O0 H' r3 σ2 ∧ Kp H r σ H' r3 σ2 := by
  obtain ⟨l, el, rfl⟩ := frZ_some e
  obtain ⟨l2, el2, rfl⟩ := unZ_some e'
  have hi : i < r.length := (List.getElem?_eq_some_iff.mp el).1
  have hi2 : i < r2.length := (List.getElem?_eq_some_iff.mp el2).1
  obtain ⟨R1, at1⟩ := hR.swap (y := .z l) (.inl ⟨el, rfl⟩)
  obtain ⟨R3, at3⟩ := R2.swap (y := .o l2) (.inr ⟨el2, rfl⟩)
  obtain ⟨q1, q2⟩ := k.fz i l (get_set_eq hi)
  have m1 : ∀ b, MutAt (r.set i (.z l)) σ b → MutAt r σ b := fun b ⟨j, m, ej, qj⟩ => by
    have hj : i ≠ j := fun z => by subst z; rw [get_set_eq hi] at ej; cases ej
    rw [get_set_ne hj] at ej; exact ⟨j, m, ej, qj⟩
  refine ⟨R3, ⟨fun b o eb n => k.keep b o eb fun z => n (m1 b z), k.live, k.lst, fun b z => (k.new b ((at3 b).mp z)).imp (at1 b).mp id, fun b z => ?_, fun j m ej => ?_, fun j m ej => ?_⟩⟩
  · obtain ⟨j, m, ej, qj⟩ := z
    by_cases hj : i = j
    · subst hj
      exact .inl ⟨i, l, by rw [el]; rfl, by rw [← q2]; exact qj⟩
    · rw [get_set_ne hj] at ej
      exact (k.mnew b ⟨j, m, ej, qj⟩).imp (m1 b) id
  · have hj : i ≠ j := fun z => by subst z; rw [el] at ej; cases ej
    obtain ⟨⟨m', e1⟩, e2⟩ := k.par j m (by rw [get_set_ne hj]; exact ej)
    exact ⟨⟨m', by rw [get_set_ne hj]; exact e1⟩, e2⟩
  · have hj : i ≠ j := fun z => by subst z; rw [el] at ej; cases ej
    obtain ⟨e1, e2⟩ := k.fz j m (by rw [get_set_ne hj]; exact ej)
    exact ⟨by rw [get_set_ne hj]; exact e1, e2⟩
theorem ds_z (i : Nat) {X : Cx} {st : Stmt} {g : MS} (h : DS X st g) : DS X st (sZ i g) := by
  refine PS.conseq h fun Dn σ H hq => ?_
  obtain ⟨O0, r, fl, hR, e, q⟩ := hq
  obtain ⟨r1, e1, e2⟩ := bind_some e
  obtain ⟨f1, e3, e4⟩ := bind_some e2
  have R1 : R X.K O0 H r1 σ := by
    obtain ⟨l, el, rfl⟩ := frZ_some e1
    exact (hR.swap (y := .z l) (.inl ⟨el, rfl⟩)).1
  refine ⟨O0, r1, f1, R1, e3, ?_⟩
  cases f1 with
  | nx r2 =>
    obtain ⟨r3, e5, rfl⟩ := map_some e4
    exact fun σ' H' R' k' => let ⟨R3, k3⟩ := Kp.froze hR e1 k' R' e5; q σ' H' R3 k3
  | bk r2 =>
    obtain ⟨r3, e5, rfl⟩ := map_some e4
    exact fun σ' H' R' k' => let ⟨R3, k3⟩ := Kp.froze hR e1 k' R' e5; q σ' H' R3 k3
  | ct r2 =>
    obtain ⟨r3, e5, rfl⟩ := map_some e4
    exact fun σ' H' R' k' => let ⟨R3, k3⟩ := Kp.froze hR e1 k' R' e5; q σ' H' R3 k3
  | rt d r2 =>
    obtain ⟨r3, e5, rfl⟩ := map_some e4
    exact fun v σ' H' R' k' iv => let ⟨R3, k3⟩ := Kp.froze hR e1 k' R' e5; q v σ' H' R3 k3 iv
  | rf l r2 => cases e4
section
variable {X : Cx} {a b : Expr} {f g : ME} {p pos : Pos} {elts : List Expr} {k : Nat} {tp : Pos}
def lK (K : Fg) (f : ML) : TE := fun σ H Q => ∃ O0 r l, R K O0 H r σ ∧ f r = some l ∧ ∀ u xs H', Same H H' → (∀ H1, Keep (MutAt r σ) H' H1 → SqL K H1 u xs) → IsL K (Ow O0 r σ) H' l xs → Q (.ref u) H'
def DK (X : Cx) (e : Expr) (f : ML) : Prop := PE X e (lK X.K f)
def mZs (i : Nat) : ML := fun r => match r[i]? with
  | some (.z l) => some l
  | _ => none
theorem dk_z (i : Nat) {x : Str} (h : PE X (.Name x pos) (tVar i)) : DK X (.Name x pos) (mZs i) := by
  refine PE.conseq h fun σ H Q hq => ?_
  obtain ⟨O0, r, l, hR, e, q⟩ := hq
  have e' : r[i]? = some (.z l) := by
    unfold mZs at e
    split at e
    · rename_i l' h; cases e; exact h
    · cases e
  obtain ⟨u, xs, e1, e2, e3⟩ := hR.own i l (by rw [e']; rfl)
  refine ⟨.ref u, e1, q u xs H (Same.refl H) (fun H1 k1 => SqL.of (k1 _ _ e2 fun ⟨j, m, ej, qj⟩ => ?_)) e3⟩
  obtain ⟨y, ey, ym⟩ := bind_some ej
  have := hR.apart i j u l m (by rw [e']; rfl) (by rw [ey]; exact mt_own ym) e1 qj
  subst this
  rw [e'] at ey; cases ey; cases ym
theorem noF {H : Hp} : OLst (fun _ => False) H := fun _ z => z.elim
end
section
variable {w : World} {prog : Program} {E : Value → Shared → Prop} {A : Around}
theorem drawL {it l : Addr} {ys : Array Value} (hne : l ≠ it) : ∀ (n i : Nat) (s : Shared) (Q : List Value → Shared → Prop), s.heap.IsListIter it l i → s.heap.IsList l ys → i + n ≤ ys.size →
    (∀ g, g.IsListIter it l (i + n) → Heap.SameBut it s.heap g → Q ((ys.toList.drop i).take n) { s with heap := g }) → wpAny (model prog w) A (draw (.ref it) n) Q E s
  | 0, i, s, Q, h1, _, _, h => by
    show wpAny _ _ (pure []) Q E s; exact wpAny_pure (by simpa using h s.heap h1 (Heap.SameBut.refl ..))
  | n + 1, i, s, Q, h1, h2, h3, h => by
    have hl : i < ys.size := by omega
    show wpAny _ _ (pyNext (.ref it) >>= _) Q E s; refine wpAny_bind (wpAny_pyNext_list_item h1 h2 (x := ys[i]) (by simp [hl]) fun g1 k1 t1 => ?_)
    refine wpAny_bind (wpAny_holding (drawL hne n (i + 1) _ _ k1 (h2.extBut t1.extBut hne) (by omega) fun g2 k2 t2 => wpAny_pure (?_)))
    have hd : ys.toList.drop i = ys[i] :: ys.toList.drop (i + 1) := by simp [List.drop_eq_getElem_cons, hl]
    have := h g2 (by rw [show i + (n + 1) = i + 1 + n by omega]; exact k2) (t1.trans t2)
    rw [hd, List.take_succ_cons] at this; exact this
theorem unpackL {l : Addr} {ys : Array Value} {s : Shared} {Q : List Value → Shared → Prop} (hh : A.handled = none) (h2 : s.heap.IsList l ys) (h : ∀ g, Heap.ExtBut s.heap.objs.size s.heap g → Q ys.toList { s with heap := g }) : wpAny (model prog w) A (unpackItems (.ref l) ys.size none) Q E s := by
  have hlt : l ≠ s.heap.objs.size := by obtain ⟨o, e, _⟩ := h2; exact Nat.ne_of_lt (Heap.lt_size e)
  unfold unpackItems; refine wpAny_bind (?_); unfold notIterableAtAll
  refine wpAny_bind (wpAny_specialOf h2.typeIs F.slot_list_iter.lookup (wpAny_pure (?_))); simp only [Bool.false_eq_true, if_false]; refine wpAny_bind (wpAny_holding (wpAny_pyIter_list h2 (?_)))
  refine wpAny_bind (wpAny_holding (drawL hlt ys.size 0 _ _ ⟨_, Heap.get?_push_size _ rfl, rfl, rfl⟩ (h2.push _) (by omega) fun g1 k1 t1 => ?_))
  have ha : List.take ys.size (List.drop 0 ys.toList) = ys.toList := by rw [List.drop_zero]; exact List.take_of_length_le (by simp)
  rw [ha, if_neg (by simp)]
  refine wpAny_bind (wpAny_holding (wpAny_pyNext_list_end hh k1 ((h2.push _).extBut t1.extBut hlt) (by simp) fun g2 t2 => ?_)); simp only [Option.isSome_none, Bool.false_eq_true, if_false]
  exact wpAny_pure (h g2 fun b o hb e => t2 b o hb (t1.extBut b o hb (Heap.get?_push_of_some _ e)))
end
section
variable {X : Cx} {pos : Pos} {es : List Expr} {k n : Nat}
theorem pg_seq {t : TGs} (hc : X.calm = true) (h : PGs X es t) (hn : (assignEach es X.env).length = n := by rfl) (hst : (assignEach es X.env).findIdx? (·.1) = none := by rfl) :
    PG X (.Tuple es k pos) (fun v σ H Q => ∃ a xs, v = .ref a ∧ (SqT X.K H a xs ∨ SqL X.K H a xs) ∧ xs.length = n ∧ t xs σ H Q) := by
  intro pins s σ H v u Q I r hw
  obtain ⟨a, xs, e1, hq, hl, hw⟩ := hw
  subst e1
  cases r
  rcases hq with hq | hq
  · exact pg_tup hc h hn hst pins s σ H (.ref a) (.ref a) Q I rfl ⟨a, xs, rfl, hq, hl, hw⟩
  · obtain ⟨its, rv, pl, hz⟩ := I.list hq
    rw [assign_Tuple]
    refine wpAny_bind (wpAny_standAt ?_)
    unfold unpack
    rw [hst]
    have hsz : (assignEach es X.env).length = its.toArray.size := by rw [hn, List.size_toArray, ← rv.length]; exact hl.symm
    rw [hsz]
    refine wpAny_bind (wpAny_holding (unpackL (I.ok.hd hc) pl.isList fun g hx => ?_))
    have I1 : Inv X pins σ H { s with heap := g } := I.kept (t' := s.toks) fun b o e => hx b o (Nat.ne_of_lt (Heap.lt_size e)) e
    exact h pins _ σ H xs _ Q I1 (by simpa using rv) hw
def bdSeq (n : Nat) (bs : List D → En → Option En) : D → En → Option En := fun d r => match d with
  | .tup l => if l.length = n then bs l r else none
  | .lst l => if l.length = n then bs l r else none
  | _ => none
theorem dg_seq {bs : List D → En → Option En} (hc : X.calm = true) (h : DGs X es bs) (hn : (assignEach es X.env).length = n := by rfl) (hst : (assignEach es X.env).findIdx? (·.1) = none := by rfl) : DG X (.Tuple es k pos) (bdSeq n bs) := by
  refine PG.conseq (pg_seq hc h hn hst) fun v σ H Q h => ?_
  obtain ⟨O0, r, d, r', hR, iv, e, q⟩ := h
  cases d <;> first | (simp only [bdSeq, reduceCtorEq] at e; done) | skip
  · rename_i l
    rw [Is.tup_iff] at iv
    obtain ⟨a, xs, rfl, hs, il⟩ := iv
    simp only [bdSeq] at e
    split at e
    · rename_i hl
      exact ⟨a, xs, rfl, .inl hs, by rw [← il.length]; exact hl, O0, r, l, r', hR, il, e, q⟩
    · cases e
  · rename_i l
    rw [Is.lst_iff] at iv
    obtain ⟨a, xs, rfl, hs, il⟩ := iv
    simp only [bdSeq] at e
    split at e
    · rename_i hl
      exact ⟨a, xs, rfl, .inr hs.sq, by rw [← il.length]; exact hl, O0, r, l, r', hR, il, e, q⟩
    · cases e
end
set_option maxRecDepth 9000 in
theorem extT (l : Addr) (xs : Array Value) (n : Nat) (b : Addr) (cl : Value) (dd : Option Addr) (ys : Array Value) (n2 : Nat) (sl : Array (Option Value)) (hcl : cl = .type "tuple") (h0 : ¬(!xs.isEmpty && Builtin.List.listTooLong (xs.size + ys.size)) = true) (h1 : xs.size ≤ sizeLine) (h2 : xs.size + ys.size ≤ sizeLine + 1) :
    Meets (Builtin.«list.extend» ⟨[.ref l, .ref b], []⟩) (fun _ R s => s.heap.get? l = some { cls := .type "list", dict := none, data := .seq xs n, slots := #[] } ∧ s.heap.get? b = some { cls := cl, dict := dd, data := .seq ys n2, slots := sl } ∧ R (.ok (.ret Value.none)) { s with heap := s.heap.update l (Obj.mapSeq fun x => x ++ ys), toks := s.toks }) :=
  .of_wp fun prog w A R s h => by
    subst hcl
    obtain ⟨hp, g, d, tk, os⟩ := s; obtain ⟨hl, hb, h⟩ := h; have f1 := AutoSeq1.idx_int; have f2 := AutoSeq1.sub_tuple_tuple; have f3 := AutoSeq1.sub_list_list; have f4 := AutoSeq1.sub_tuple_list; have f5 := AutoSeq1.sub_list_tuple
    have hz : (xs ++ ys).size ≤ sizeLine + 1 := by rw [Array.size_append]; exact h2
    wp_walk using (wpAny_updateSeq hl rfl (hz := h1) (_hz' := hz)), wpAny_loadPart' hl, wpAny_loadPart' hb; exact ⟨_, rfl, h⟩
set_option maxRecDepth 9000 in
theorem extL (l : Addr) (xs : Array Value) (n : Nat) (b : Addr) (cl : Value) (dd : Option Addr) (ys : Array Value) (n2 : Nat) (sl : Array (Option Value)) (hcl : cl = .type "list") (h0 : ¬(!xs.isEmpty && Builtin.List.listTooLong (xs.size + ys.size)) = true) (h1 : xs.size ≤ sizeLine) (h2 : xs.size + ys.size ≤ sizeLine + 1) :
    Meets (Builtin.«list.extend» ⟨[.ref l, .ref b], []⟩) (fun _ R s => s.heap.get? l = some { cls := .type "list", dict := none, data := .seq xs n, slots := #[] } ∧ s.heap.get? b = some { cls := cl, dict := dd, data := .seq ys n2, slots := sl } ∧ R (.ok (.ret Value.none)) { s with heap := s.heap.update l (Obj.mapSeq fun x => x ++ ys), toks := s.toks }) :=
  .of_wp fun prog w A R s h => by
    subst hcl
    obtain ⟨hp, g, d, tk, os⟩ := s; obtain ⟨hl, hb, h⟩ := h; have f1 := AutoSeq1.idx_int; have f2 := AutoSeq1.sub_tuple_tuple; have f3 := AutoSeq1.sub_list_list; have f4 := AutoSeq1.sub_tuple_list; have f5 := AutoSeq1.sub_list_tuple
    have hz : (xs ++ ys).size ≤ sizeLine + 1 := by rw [Array.size_append]; exact h2
    wp_walk using (wpAny_updateSeq hl rfl (hz := h1) (_hz' := hz)), wpAny_loadPart' hl, wpAny_loadPart' hb; exact ⟨_, rfl, h⟩
section
variable {X : Cx}
def rExtA (K : Fg) : V → List V → Hp → VK → Prop := fun x vs H Q => ∃ l b xs zs, x = .ref l ∧ vs = [.ref b] ∧ H l = some (.lst xs) ∧ (SqL K H b zs ∨ SqT K H b zs) ∧ xs.length + zs.length ≤ sizeLine ∧ Q .non (upd H l (.lst (xs ++ zs)))
theorem mt_extA : MtR X "list.extend" (rExtA X.K) := by
  intro pins s σ H x vs v us Q I rx rv h
  obtain ⟨l, b, xs, zs, rfl, rfl, hH, hB, hz, q⟩ := h
  cases rx
  obtain ⟨u, rfl, ru⟩ := rv.one
  cases ru
  obtain ⟨z, its, n, r, hl, e⟩ := I.lstM hH
  have fin : ∀ (its2 : List Value), Vals zs its2 → ¬ (!its.toArray.isEmpty && Builtin.List.listTooLong (its.toArray.size + its2.toArray.size)) = true ∧ its.toArray.size ≤ sizeLine ∧ its.toArray.size + its2.toArray.size ≤ sizeLine + 1 ∧
      EP X pins σ Q Value.none { s with heap := s.heap.update l (Obj.mapSeq fun x => x ++ its2.toArray), toks := s.toks } := fun its2 r2 => by
    have hl2 := r2.length
    have hsz : its.toArray.size + its2.toArray.size ≤ sizeLine := by rw [List.size_toArray, List.size_toArray]; omega
    refine ⟨by rw [notLongL hsz, Bool.and_false]; exact Bool.false_ne_true, by rw [List.size_toArray]; omega, by omega, .non, _, I.lset (its' := its ++ its2) hH e (by simp) (r.append r2) ?_, rfl, q⟩
    rw [List.length_append]; omega
  rcases hB with hB | hB
  · obtain ⟨its2, r2, ⟨⟨c2, d2, dt2, sl2⟩, n2, g2, hc, hd, hs⟩, z2⟩ := I.list hB
    simp only at hc hd hs
    subst hs
    obtain ⟨f1, f2, f3, f4⟩ := fin its2 r2
    exact call_meets F.slot_list_extend ⟨_, e, rfl⟩ F.entry_list_extend (F.args_list_extend_2 _ _) (extL l its.toArray n b _ _ its2.toArray n2 _ hc f1 f2 f3) ⟨e, g2, f4⟩
  · obtain ⟨its2, r2, ⟨⟨c2, d2, dt2, sl2⟩, g2, hc, n2, hs⟩, z2⟩ := I.tuple hB
    simp only at hc hs
    subst hs
    obtain ⟨f1, f2, f3, f4⟩ := fin its2 r2
    exact call_meets F.slot_list_extend ⟨_, e, rfl⟩ F.entry_list_extend (F.args_list_extend_2 _ _) (extT l its.toArray n b _ _ its2.toArray n2 _ hc f1 f2 f3) ⟨e, g2, f4⟩
variable {apos cpos pn : Pos} {e : Expr} {f : ME}
theorem dx_extend (i : Nat) {x : Str} (h : PE X (.Name x pn) (tVar i)) (he : DE X e f)
    (hline : (apos.endLine == cpos.line) = true := by rfl) (hbase : attributeBase (.Name x pn) "extend" X.env (eval (.Name x pn) X.env) = eval (.Name x pn) X.env := by rfl)
    (hfew : ((backTo cpos (starEach [e] X.env)).all (fun x => !x.1) && (backToKw cpos (keywordEach [] X.env)).all (fun x => x.1.isSome) && decide ([e].length + ([] : List Keyword).length + (if ([] : List Keyword).isEmpty then 0 else 1) < 30)) = true := by rfl)
    (hs : starEach [e] X.env = (false, eval e X.env) :: starEach [] X.env := by rfl) :
    DX X (.Call (.Attribute (.Name x pn) "extend" apos) [e] [] cpos) (mExt i f) := by
  refine PE.conseq (pe_bm PySem.F.plainAttrs_list PySem.F.slot_list_extend PySem.F.type_list_extend mt_extA h (pa_cons he pa_nil hs) hbase hfew hline hs) fun σ H Q hq => ?_
  obtain ⟨O0, r, d', r', hR, e, q⟩ := hq
  obtain ⟨d, e1, e⟩ := bind_some e
  obtain ⟨m, em, e⟩ := bind_some e
  obtain ⟨l, e2, e⟩ := bind_some e
  split at e
  · rename_i hl
    obtain ⟨r2, e3, e4⟩ := map_some e
    cases e4
    obtain ⟨a, xs, q1, q2, q3⟩ := mt_at hR e2
    refine ⟨.ref a, q1, .inl ⟨rfl, xs, SqL.of q2⟩, O0, r, d, hR, e1, fun v H1 s1 i1 => ?_⟩
    have R1 := hR.same s1
    have key : ∃ b zs, v = .ref b ∧ (SqL X.K H1 b zs ∨ SqT X.K H1 b zs) ∧ IsL X.K (Ow O0 r σ) H1 m zs := by
      cases d <;> first | (cases em; done) | skip
      · cases em; rw [Is.tup_iff] at i1; obtain ⟨b, zs, rfl, h1, h2⟩ := i1; exact ⟨b, zs, rfl, .inr h1, h2⟩
      · cases em; rw [Is.lst_iff] at i1; obtain ⟨b, zs, rfl, h1, h2⟩ := i1; exact ⟨b, zs, rfl, .inl h1.sq, h2⟩
    obtain ⟨b, zs, rfl, hb, il⟩ := key
    obtain ⟨R2, k2⟩ := R1.upd (xs' := xs ++ zs) e3 q1 (s1 _ _ q2) ((q3.same s1 hR.ol).append il)
    exact ⟨a, b, xs, zs, rfl, rfl, s1 _ _ q2, hb, by rw [← q3.length, ← il.length]; exact hl, q _ _ R2 ((Kp.of_same r σ s1).trans k2) (by rw [Is.non_iff])⟩
  · cases e
end
def eqLV : List V → List V → Bool
  | [], [] => true
  | x :: xs, y :: ys => eqV x y && eqLV xs ys
  | _, _ => false
def eqLF : List D → List D → Bool
  | [], [] => true
  | x :: xs, y :: ys => eqF x y && eqLF xs ys
  | _, _ => false
def eqAtJ (xs ys : List V) (j : Nat) : Bool := match xs[j]?, ys[j]? with
  | some x, some y => eqV x y
  | _, _ => false
theorem range_eqJ : ∀ (xs ys : List V), xs.length = ys.length → (List.range xs.length).all (eqAtJ xs ys) = eqLV xs ys
  | [], [], _ => rfl
  | x :: xs, y :: ys, h => by
    rw [List.length_cons, List.range_succ_eq_map, List.all_cons, List.all_map, eqLV, ← range_eqJ xs ys (by simpa using h)]
    rfl
  | [], y :: ys, h => by simp at h
  | x :: xs, [], h => by simp at h
theorem eqLV_len : ∀ (xs ys : List V), xs.length ≠ ys.length → eqLV xs ys = false
  | [], [], h => by simp at h
  | x :: xs, y :: ys, h => by rw [eqLV, eqLV_len xs ys (by simpa using h), Bool.and_false]
  | [], y :: ys, h => rfl
  | x :: xs, [], h => rfl
theorem eqLF_ok {K : Fg} {O : Addr → Prop} {H : Hp} : ∀ {l m : List D} {xs ys : List V}, IsL K O H l xs → IsL K O H m ys → l.all flatD = true → m.all flatD = true → xs.all flatV = true ∧ ys.all flatV = true ∧ eqLV xs ys = eqLF l m
  | [], [], xs, ys, h, h', _, _ => by unfold IsL at h h'; subst h h'; exact ⟨rfl, rfl, rfl⟩
  | [], e :: m, xs, ys, h, h', _, f' => by
    unfold IsL at h; subst h
    rw [List.all_cons, Bool.and_eq_true] at f'
    unfold IsL at h'; obtain ⟨v, r, rfl, h1, h2⟩ := h'
    exact ⟨rfl, by rw [List.all_cons, flat_ok h1 f'.1, (eqLF_ok (l := []) IsL.nil h2 rfl f'.2).2.1]; rfl, rfl⟩
  | d :: l, [], xs, ys, h, h', f, _ => by
    unfold IsL at h'; subst h'
    rw [List.all_cons, Bool.and_eq_true] at f
    unfold IsL at h; obtain ⟨v, r, rfl, h1, h2⟩ := h
    exact ⟨by rw [List.all_cons, flat_ok h1 f.1, (eqLF_ok (m := []) h2 IsL.nil f.2 rfl).1]; rfl, rfl, rfl⟩
  | d :: l, e :: m, xs, ys, h, h', f, f' => by
    rw [List.all_cons, Bool.and_eq_true] at f f'
    unfold IsL at h; obtain ⟨v, r, rfl, h1, h2⟩ := h
    unfold IsL at h'; obtain ⟨v', r', rfl, h1', h2'⟩ := h'
    obtain ⟨a, b, c⟩ := eqLF_ok h2 h2' f.2 f'.2
    exact ⟨by rw [List.all_cons, flat_ok h1 f.1, a]; rfl, by rw [List.all_cons, flat_ok h1' f'.1, b]; rfl, by rw [eqLV, eqLF, c, eqF_ok h1 f.1 h1' f'.1]⟩
section
variable {X : Cx}
def rEqL (K : Fg) (neg : Bool) : R2 := fun x y H Q => ∃ p q xs ys, x = .ref p ∧ y = .ref q ∧ SqL K H p xs ∧ SqL K H q ys ∧ xs.all flatV = true ∧ ys.all flatV = true ∧ Q (.bl (if neg then !eqLV xs ys else eqLV xs ys)) H
theorem all_get {xs : List V} {j : Nat} {x : V} (h : xs.all flatV = true) (e : xs[j]? = some x) : flatV x = true := List.all_eq_true.mp h x (List.mem_of_getElem? e)
theorem vals_at {xs : List V} {its : List Value} (r : Vals xs its) {j : Nat} (h : j < its.toArray.size) : ∃ x, xs[j]? = some x ∧ RelV x its.toArray[j] := by
  have hj : j < xs.length := by rw [r.length]; simpa using h
  obtain ⟨u, e, q⟩ := r.get (i := j) (x := xs[j]) (by simp [hj])
  refine ⟨xs[j], by simp [hj], ?_⟩
  have : its.toArray[j] = u := by
    have h' : j < its.length := by simpa using h
    simp only [List.getElem_toArray]
    rw [List.getElem?_eq_getElem h'] at e
    exact Option.some.inj e
  rw [this]; exact q
theorem items_eq {A : Around} {s : Shared} {xs ys : List V} {its its2 : List Value} (r : Vals xs its) (r2 : Vals ys its2) (fx : xs.all flatV = true) (fy : ys.all flatV = true) : ∀ j (h1 : j < its.toArray.size) (h2 : j < its2.toArray.size), SeqAt.EqAt A s its.toArray[j] its2.toArray[j] (eqAtJ xs ys j) := by
  intro j h1 h2
  obtain ⟨x, e1, q1⟩ := vals_at r h1
  obtain ⟨y, e2, q2⟩ := vals_at r2 h2
  have : eqAtJ xs ys j = eqV x y := by unfold eqAtJ; rw [e1, e2]
  rw [this]
  exact eqAt_V q1 q2 (all_get fx e1) (all_get fy e2)
theorem op_eqL (hu : X.A.units < cLine) : OpR X (compareOp .Eq) (rEqL X.K false) := by
  intro pins s σ H x y v u Q I rx ry h
  obtain ⟨p, q', xs, ys, rfl, rfl, h1, h2, fx, fy, q⟩ := h
  cases rx; cases ry
  obtain ⟨its, r, pl, hz⟩ := I.list h1
  obtain ⟨its2, r2, pl2, hz2⟩ := I.list h2
  have n1 := r.length
  have n2 := r2.length
  by_cases hl : xs.length = ys.length
  · refine SeqAt.eq_listAt pl.isList pl2.isList (by simp only [List.size_toArray]; omega) hu (items_eq r r2 fx fy) (fin_bl I q ?_)
    rw [List.size_toArray, ← n1, range_eqJ xs ys hl]; rfl
  · refine SeqAt.eq_list_lengthsAt pl.isList pl2.isList (by simp only [List.size_toArray, bne_iff_ne]; omega) hu (fin_bl I q ?_)
    rw [eqLV_len xs ys hl]; rfl
theorem op_neL (hu : X.A.units < cLine) : OpR X (compareOp .NotEq) (rEqL X.K true) := by
  intro pins s σ H x y v u Q I rx ry h
  obtain ⟨p, q', xs, ys, rfl, rfl, h1, h2, fx, fy, q⟩ := h
  cases rx; cases ry
  obtain ⟨its, r, pl, hz⟩ := I.list h1
  obtain ⟨its2, r2, pl2, hz2⟩ := I.list h2
  have n1 := r.length
  have n2 := r2.length
  by_cases hl : xs.length = ys.length
  · refine SeqAt.RcNeAt.lists pl.isList pl2.isList (by simp only [List.size_toArray]; omega) hu (items_eq r r2 fx fy) _ _ _ _ (fin_bl I q ?_)
    rw [List.size_toArray, ← n1, range_eqJ xs ys hl]; rfl
  · refine SeqAt.RcNeAt.lists_lengths pl.isList pl2.isList (by simp only [List.size_toArray, bne_iff_ne]; omega) hu _ _ _ _ (fin_bl I q ?_)
    rw [eqLV_len xs ys hl]; rfl
def eqA (x y : D) : Option D := match x, y with
  | .lst l, .lst m => if l.all flatD = true ∧ m.all flatD = true then some (.bl (eqLF l m)) else none
  | x, y => eqD x y
def neA (x y : D) : Option D := match x, y with
  | .lst l, .lst m => if l.all flatD = true ∧ m.all flatD = true then some (.bl (!eqLF l m)) else none
  | x, y => neD x y
def rEqA (K : Fg) : R2 := fun x y H Q => rEqL K false x y H Q ∨ rEq x y H Q
def rNeA (K : Fg) : R2 := fun x y H Q => rEqL K true x y H Q ∨ rNe x y H Q
theorem op_eqA (hu : X.A.units < cLine) : OpR X (compareOp .Eq) (rEqA X.K) := (op_eqL hu).or op_eq
theorem op_neA (hu : X.A.units < cLine) : OpR X (compareOp .NotEq) (rNeA X.K) := (op_neL hu).or op_ne
theorem od_eqA {K : Fg} : OpD K (rEqA K) eqA := by
  intro O H dx dy d vx vy Q ol ix iy e q
  unfold eqA at e
  split at e
  · rename_i l m
    split at e
    · rename_i hf
      cases e
      rw [Is.lst_iff] at ix iy
      obtain ⟨a, xs, rfl, hs, il⟩ := ix
      obtain ⟨b, ys, rfl, hs', il'⟩ := iy
      obtain ⟨f1, f2, f3⟩ := eqLF_ok il il' hf.1 hf.2
      exact .inl ⟨a, b, xs, ys, rfl, rfl, hs.sq, hs'.sq, f1, f2, q _ H (Same.refl H) (by rw [Is.bl_iff, f3]; rfl)⟩
    · cases e
  · exact .inr (od_eq O H dx dy d vx vy Q ol ix iy e q)
theorem od_neA {K : Fg} : OpD K (rNeA K) neA := by
  intro O H dx dy d vx vy Q ol ix iy e q
  unfold neA at e
  split at e
  · rename_i l m
    split at e
    · rename_i hf
      cases e
      rw [Is.lst_iff] at ix iy
      obtain ⟨a, xs, rfl, hs, il⟩ := ix
      obtain ⟨b, ys, rfl, hs', il'⟩ := iy
      obtain ⟨f1, f2, f3⟩ := eqLF_ok il il' hf.1 hf.2
      exact .inl ⟨a, b, xs, ys, rfl, rfl, hs.sq, hs'.sq, f1, f2, q _ H (Same.refl H) (by rw [Is.bl_iff, f3]; rfl)⟩
    · cases e
  · exact .inr (od_ne O H dx dy d vx vy Q ol ix iy e q)
end
section
variable {X : Cx} {a b l tg : Expr} {f : ME} {pos p : Pos}
theorem di_k {fl : ML} (hl : DK X l fl) : DI X tg l fl := by
  refine PI.conseq (pi_seq hl) fun σ H Rr h => ?_
  obtain ⟨O0, r, ds, hR, e, q⟩ := h
  refine ⟨O0, r, ds, hR, e, fun u xs H1 s1 kp il => ?_⟩
  exact ⟨u, rfl, .inl ⟨⟨xs, kp H1 fun b o e _ => e⟩, q _ H1 s1 (yl_list (fun a z => .inr z.own) (hR.same s1).ol kp il)⟩⟩
end
section
variable {X : Cx} {a : Expr} {es : List Expr} {f : ME} {fs : ML} {i : Nat} {pos p pn : Pos}
theorem own_put {r r' : En} {σ : St} {l' : List D} {b : Addr} (e : putO i l' r = some r') (h : OwnAt r' σ b) : OwnAt r σ b := by
  obtain ⟨x, y, ex, rfl, yo, ym, ⟨l0, xm⟩, _⟩ := putO_some e
  obtain ⟨j, m, ej, qj⟩ := h
  by_cases hj : j = i
  · subst hj; exact ⟨j, l0, by rw [ex]; exact mt_own xm, qj⟩
  · rw [get_set_ne (fun z => hj z.symm)] at ej; exact ⟨j, m, ej, qj⟩
end
section
variable {es : List Expr} {env : Env} {p : Pos}
theorem stConst {c k} : starEach (.Constant c k p :: es) env = (false, eval (.Constant c k p) env) :: starEach es env := rfl
theorem stName {x} : starEach (.Name x p :: es) env = (false, eval (.Name x p) env) :: starEach es env := rfl
theorem stTuple {l k} : starEach (.Tuple l k p :: es) env = (false, eval (.Tuple l k p) env) :: starEach es env := rfl
theorem stCall {f l k} : starEach (.Call f l k p :: es) env = (false, eval (.Call f l k p) env) :: starEach es env := rfl
theorem stList {l} : starEach (.List l p :: es) env = (false, eval (.List l p) env) :: starEach es env := rfl
theorem stSub {a b} : starEach (.Subscript a b p :: es) env = (false, eval (.Subscript a b p) env) :: starEach es env := rfl
theorem stBin {a o b} : starEach (.BinOp a o b p :: es) env = (false, eval (.BinOp a o b p) env) :: starEach es env := rfl
end
section
variable {X : Cx} {pos : Pos} {a b tg : Expr} {f g : ME}
def blsD : List D → Option (List Bool)
  | [] => some []
  | .bl i :: r => (blsD r).map (i :: ·)
  | _ => none
def mAll (fl : ML) : ME := fun r => (fl r).bind fun l => (blsD l).map fun bs => .bl (bs.all id)
theorem blsD_ok {K : Fg} {O : Addr → Prop} {H : Hp} : ∀ {l : List D} {ns : List Bool} {vs : List V}, blsD l = some ns → IsL K O H l vs → vs = ns.map V.bl
  | [], ns, vs, e, il => by cases e; unfold IsL at il; subst il; rfl
  | d :: l, ns, vs, e, il => by
    unfold IsL at il
    obtain ⟨v, r, rfl, i1, i2⟩ := il
    cases d <;> first | (simp only [blsD, reduceCtorEq] at e; done) | skip
    simp only [blsD] at e
    obtain ⟨ms, e1, rfl⟩ := map_some e
    rw [Is.bl_iff] at i1
    rw [i1, blsD_ok e1 i2]; rfl
theorem call_allB (hc : X.calm = true) : CallR X (.builtin "all") (fun xs H Q => ∃ (p : Addr) (bs : List Bool), xs = [.ref p] ∧ SqL X.K H p (bs.map V.bl) ∧ Q (.bl (bs.all id)) H) := by
  intro pins s σ H xs us Q I r hq
  obtain ⟨p, bs, rfl, hS, q⟩ := hq
  obtain ⟨u, rfl, ru⟩ := Vals.one r
  cases ru
  obtain ⟨its, rv, pl, hz⟩ := I.list hS
  have hl := pl.isList
  have hlt : p < s.heap.objs.size := by obtain ⟨_, e, _⟩ := hl; exact Heap.lt_size e
  have ln : its.length = bs.length := by have := rv.length; rw [List.length_map] at this; exact this.symm
  refine call_all_walk (wpAny_pyIter_list hl ?_); refine ⟨s.heap.objs.size, [s.heap.objs.size, p], [s.heap.objs.size], its.toArray.size, _, _, fun i => (bs[i]?).getD true, rfl, Walks.list (A := X.A.in1) (I.ok.hd hc) _ p (Nat.ne_of_lt hlt) its.toArray, ⟨⟨_, Heap.get?_push_size _ rfl, rfl, rfl⟩, hl.push _⟩, fun i v s' Q' E' hP hQ => ?_, fun h' tk hk => ?_⟩
  · have hv : its[i]? = some v := by simpa using hP
    have hi : i < bs.length := by have := (List.getElem?_eq_some_iff.mp hv).1; omega
    have e : bs[i]? = some (bs[i]'hi) := List.getElem?_eq_getElem hi
    obtain ⟨w', e1, e2⟩ := rv.get (i := i) (x := .bl (bs[i]'hi)) (by rw [List.getElem?_map, e]; rfl)
    rw [hv] at e1
    cases e1
    obtain rfl : v = .bool (bs[i]'hi) := e2
    simp only [Option.getD_some, e] at hQ
    exact wpAny_truthy_bool hQ
  · have e : ((List.range its.toArray.size).all fun i => (bs[i]?).getD true) = bs.all id := by
      rw [List.size_toArray, ln]; exact LSm.range_all bs
    rw [e]
    exact ⟨.bl _, H, I.kept (LSm.kept_iter hk), rfl, q⟩
theorem de_all {p' : Pos} {fl : ML} (hg : Gl X "all") (hm : X.mg "all" = none) (ha : DB X a fl) (hc : X.calm = true := by rfl)
    (hs : starEach [a] X.env = (false, eval a X.env) :: starEach [] X.env := by rfl) : DE X (.Call (.Name "all" p') [a] [] pos) (mAll fl) := by
  refine PE.conseq (pe_callB (call_allB hc) hg hm PyProof.Rows.boot_all (pa_cons ha pa_nil hs) (he := hs)) fun σ H Q hq => ?_
  obtain ⟨O0, r, d, hR, e, q⟩ := hq
  obtain ⟨l, e1, e2⟩ := bind_some e
  obtain ⟨bs, e3, rfl⟩ := map_some e2
  refine ⟨O0, r, l, hR, e1, fun p xs H1 s1 sq il => ?_⟩
  have ex := blsD_ok e3 il
  subst ex
  exact ⟨p, bs, rfl, sq, q _ H1 s1 (by rw [Is.bl_iff])⟩
theorem isl_strs {K : Fg} {O : Addr → Prop} {H : Hp} : ∀ ss : List (List Nat), IsL K O H (ss.map D.str) (ss.map fun s => V.str ⟨s.toArray⟩)
  | [] => IsL.nil
  | s :: ss => .cons (by rw [Is.str_iff]) (isl_strs ss)
end
open Builtin.Str
end DD
namespace TS
open PySem PyProof.Rows
open PySem PyProof.Rows
open PySem PyProof.Rows
open PySem PyProof.Rows
open PySem PyProof.Rows
open PySem PyProof.Rows
open PySem PyProof.Rows
open PySem PyProof.Rows
open PySem PyProof.Rows
open PySem PyProof.Rows PySem.W
end TS
namespace DD
open PySem PySem.Spec PyProof.Rows L2
mutual
def toP : D → PyData
  | .non => .none
  | .bl b => .bool b
  | .int i => .int i
  | .str s => .str ⟨s.toArray⟩
  | .tup l => .tuple (toPs l)
  | .lst l => .list (toPs l)
  | .ty _ => .none
  | .ref _ => .none
def toPs : List D → List PyData
  | [] => []
  | d :: l => toP d :: toPs l
end
mutual
def okD : D → Bool
  | .tup l => okDs l
  | .lst l => okDs l
  | .ty _ => false
  | .ref _ => false
  | _ => true
def okDs : List D → Bool
  | [] => true
  | d :: l => okD d && okDs l
end
def layD (d : D) : Bool := okD d && (toP d).canLay0 && decide ((toP d).depth ≤ 150)
def eqT (x y : D) : Option D := if layD x = true ∧ layD y = true then some (.bl (PyData.eqv (toP x) (toP y))) else none
section
variable {X : Cx} {pins : List (Addr × Obj)} {σ : St} {H : Hp} {s : Shared} {O : Addr → Prop}
mutual
theorem reads_of (I : Inv X pins σ H s) : ∀ (d : D) (v : V) (u : Value), okD d = true → Is X.K O H d v → RelV v u → ∃ as, Reads s.heap u (toP d) as
  | .non, v, u, _, h, r => by rw [Is.non_iff] at h; subst h; cases r; exact ⟨_, .none⟩
  | .bl b, v, u, _, h, r => by rw [Is.bl_iff] at h; subst h; cases r; exact ⟨_, .bool b⟩
  | .int i, v, u, _, h, r => by rw [Is.int_iff] at h; subst h; obtain ⟨t, rfl⟩ := r; exact ⟨_, .int i t⟩
  | .str x, v, u, _, h, r => by rw [Is.str_iff] at h; subst h; obtain ⟨t, rfl⟩ := r; exact ⟨_, .str _ t⟩
  | .ty n, v, u, o, _, _ => by simp [okD] at o
  | .ref a, v, u, o, _, _ => by simp [okD] at o
  | .tup l, v, u, o, h, r => by
    rw [Is.tup_iff] at h
    obtain ⟨a, xs, rfl, sq, il⟩ := h
    cases r
    obtain ⟨its, rv, ⟨ob, e, c, n, dt⟩, _⟩ := I.tuple sq
    obtain ⟨as, q⟩ := readsL_of I l xs its (by simpa [okD] using o) il rv
    exact ⟨_, .tuple e c dt (by simpa using q)⟩
  | .lst l, v, u, o, h, r => by
    rw [Is.lst_iff] at h
    obtain ⟨a, xs, rfl, sq, il⟩ := h
    cases r
    obtain ⟨its, rv, ⟨ob, n, e, c, _, dt⟩, _⟩ := I.list sq.sq
    obtain ⟨as, q⟩ := readsL_of I l xs its (by simpa [okD] using o) il rv
    exact ⟨_, .list e c dt (by simpa using q)⟩
theorem readsL_of (I : Inv X pins σ H s) : ∀ (l : List D) (vs : List V) (us : List Value), okDs l = true → IsL X.K O H l vs → Vals vs us → ∃ as, ReadsAll s.heap us (toPs l) as
  | [], vs, us, _, h, r => by unfold IsL at h; subst h; cases r; exact ⟨_, .nil⟩
  | d :: l, vs, us, o, h, r => by
    unfold IsL at h
    obtain ⟨v, vr, rfl, h1, h2⟩ := h
    simp only [okDs, Bool.and_eq_true] at o
    cases r with
    | cons r1 r2 =>
      obtain ⟨as, q1⟩ := reads_of I d v _ o.1 h1 r1
      obtain ⟨bs, q2⟩ := readsL_of I l vr _ o.2 h2 r2
      exact ⟨_, .cons q1 q2⟩
end
end
section
variable {X : Cx}
def rEqT (K : Fg) : R2 := fun x y H Q => ∃ O dx dy, Is K O H dx x ∧ Is K O H dy y ∧ layD dx = true ∧ layD dy = true ∧ Q (.bl (PyData.eqv (toP dx) (toP dy))) H
theorem op_eqT (hu : X.A.units + 200 < cLine) : OpR X (compareOp .Eq) (rEqT X.K) := by
  intro pins s σ H x y v u Q I rx ry hq
  obtain ⟨O, dx, dy, ix, iy, lx, ly, q⟩ := hq
  unfold layD at lx ly
  simp only [Bool.and_eq_true, decide_eq_true_eq] at lx ly
  obtain ⟨as, qa⟩ := reads_of I dx x v lx.1.1 ix rx
  obtain ⟨bs, qb⟩ := reads_of I dy y u ly.1.1 iy ry
  exact PySem.SeqAt.compareEq_reads qa qb lx.1.2 ly.1.2 (by have := Nat.min_le_left (toP dx).depth (toP dy).depth; omega) ⟨.bl _, H, I, rfl, q⟩
theorem od_eqT {K : Fg} : OpD K (rEqT K) eqT := by
  intro O H dx dy d vx vy Q ol ix iy e q
  unfold eqT at e
  split at e
  · rename_i h
    cases e
    exact ⟨O, dx, dy, ix, iy, h.1, h.2, q _ H (Same.refl H) (by rw [Is.bl_iff])⟩
  · cases e
theorem un2 {k : Nat} {A : Around} (r : Room k A) : A.units + 200 < cLine := by have := r.un; omega
theorem eqT_refl {d : D} (h : layD d = true) : eqT d d = some (.bl true) := by
  unfold eqT
  rw [if_pos ⟨h, h⟩]
  unfold layD at h
  simp only [Bool.and_eq_true, decide_eq_true_eq] at h
  rw [PySem.SeqAt.eqv_refl _ h.1.2]
end
def fre : Sl → Prop
  | .un => True
  | .v _ => True
  | _ => False
theorem setV_fre {i : Nat} {d : D} {r : En} {x : Sl} (e : r[i]? = some x) (h : fre x) : setV i d r = some (r.set i (.v d)) := by
  unfold setV
  rw [e]
  cases x <;> first | rfl | cases h
theorem pop_of {i : Nat} {r : En} {S : List D} {d : D} (e : r[i]? = some (.o (S ++ [d]))) : mPop i r = some (d, r.set i (.o S)) := by
  simp [mPop, mtOf, e, Sl.mt, putO]
theorem app_of {i : Nat} {f : ME} {r : En} {S : List D} {d : D} (e : r[i]? = some (.o S)) (e2 : f r = some d) (h : S.length < sizeLine) : mApp i f r = some (.non, r.set i (.o (S ++ [d]))) := by
  simp [mApp, mtOf, e, Sl.mt, putO, e2, h]
theorem var_of {i : Nat} {r : En} {d : D} (e : r[i]? = some (.v d)) : mVar i r = some d := by
  unfold mVar; rw [e]
theorem seq_of {g h : MS} {r r' : En} (e : g r = some (.nx r')) : sSeq g h r = h r' := by
  unfold sSeq; rw [e]; rfl
theorem seq_rt {g h : MS} {r r' : En} {d : D} (e : g r = some (.rt d r')) : sSeq g h r = some (.rt d r') := by
  unfold sSeq; rw [e]; rfl
theorem sX_of {f : En → Option (D × En)} {r r' : En} {d : D} (e : f r = some (d, r')) : sX f r = some (.nx r') := by
  unfold sX; rw [e]; rfl
theorem sSet_of {i : Nat} {f : ME} {r r2 : En} {d : D} (e : f r = some d) (e2 : setV i d r = some r2) : sSet i f r = some (.nx r2) := by
  unfold sSet; rw [e]; show (setV i d r).map Fl.nx = _; rw [e2]; rfl
theorem sIf_t {c : MB} {g h : MS} {r : En} (e : c r = some true) : sIf c g h r = g r := by
  unfold sIf; rw [e]; rfl
theorem sIf_f {c : MB} {g h : MS} {r : En} (e : c r = some false) : sIf c g h r = h r := by
  unfold sIf; rw [e]; rfl
theorem while_go {n : Nat} {c : MB} {g : MS} {r r' : En} (h : c r = some true) (e : g r = some (.nx r')) : sWhile (n + 1) c g r = sWhile n c g r' := by
  show (c r).bind _ = _
  rw [h, Option.bind_some, if_pos rfl, e, Option.bind_some]
theorem while_end {n : Nat} {c : MB} {g : MS} {r : En} (h : c r = some false) : sWhile (n + 1) c g r = some (.nx r) := by
  show (c r).bind _ = _
  rw [h, Option.bind_some, if_neg (by simp)]
theorem for_go {bd : D → En → Option En} {g : MS} {d : D} {l : List D} {r r1 r' : En} (h : bd d r = some r1) (e : g r1 = some (.nx r')) : forL bd g (d :: l) r = forL bd g l r' := by
  show (bd d r).bind _ = _
  rw [h, Option.bind_some, e, Option.bind_some]
section
variable {f g : ME} {fl gl : ML} {r : En} {x y d : D} {i j : Int}
theorem bin_of {m : D → D → Option D} (e1 : f r = some x) (e2 : g r = some y) (e : m x y = some d) : mBin m f g r = some d := by
  unfold mBin; rw [e1, Option.bind_some, e2]; exact e
theorem un_of {m : D → Option D} (e1 : f r = some x) (e : m x = some d) : mUn m f r = some d := by
  unfold mUn; rw [e1]; exact e
theorem add_of (e1 : f r = some (.int i)) (e2 : g r = some (.int j)) : mBin addD f g r = some (.int (i + j)) := bin_of e1 e2 rfl
theorem mod_of (e1 : f r = some (.int i)) (e2 : g r = some (.int j)) (h : 0 < j) : mBin modD f g r = some (.int (i % j)) := bin_of e1 e2 (if_pos h)
theorem mul_of (e1 : f r = some (.int i)) (e2 : g r = some (.int j)) (h : -(2 ^ 64) < i ∧ i < 2 ^ 64) : mBin mulD f g r = some (.int (i * j)) := bin_of e1 e2 (if_pos (.inl h))
theorem fdiv_of (e1 : f r = some (.int i)) (e2 : g r = some (.int j)) (h : 0 < j ∧ j < 1073741824) : mBin fdivD f g r = some (.int (i / j)) := bin_of e1 e2 (if_pos h)
theorem con_of : mC d r = some d := rfl
theorem cons_of {l : List D} (e1 : f r = some x) (e2 : fl r = some l) : mCons f fl r = some (x :: l) := by
  unfold mCons; rw [e1, Option.bind_some, e2]; rfl
theorem nil_of : mNil r = some [] := rfl
theorem lstF_of {l : List D} (e : fl r = some l) (h : l.length ≤ 100) : mOfF (mLstF fl) r = some (.lst l) := by
  unfold mOfF mLstF; rw [e, Option.bind_some, if_pos (Nat.le_trans h (by decide))]; rfl
theorem tup_of {l : List D} (e : fl r = some l) (h : l.length ≤ 100) : mTup fl r = some (.tup l) := by
  unfold mTup; rw [e, Option.bind_some, if_pos (Nat.le_trans h (by decide))]
theorem call_of {n : Nat} {m : MF} {l : List D} {p : Rs} (e : fl r = some l) (hl : l.length = n) (h : ∃ as, m (l.map .v) = some (p, as)) : mCall n m fl r = some (rsD p) := by
  obtain ⟨as, h⟩ := h
  unfold mCall; rw [e, Option.bind_some, if_pos hl, h]; rfl
theorem bl_of {b : Bool} (e : f r = some (.bl b)) : mBl f r = some b := by
  unfold mBl; rw [e]; rfl
theorem ret_of (e : f r = some d) : sRet f r = some (.rt d r) := by
  unfold sRet; rw [e]; rfl
theorem seq_set {k : Nat} {h : MS} {r2 : En} {z : Option Fl} (d : D) (e : f r = some d) (e2 : setV k d r = some r2) (q : h r2 = z) : sSeq (sSet k f) h r = z := by
  rw [seq_of (sSet_of e e2)]; exact q
theorem seq_ff {c : MB} {a h : MS} {z : Option Fl} (e : c r = some false) (q : h r = z) : sSeq (sIf c a sSkip) h r = z := by
  rw [seq_of (r' := r) (by rw [sIf_f e]; rfl)]; exact q
theorem seq_tt {c : MB} {a h : MS} {r' : En} (e : c r = some true) (q : a r = some (.rt d r')) : sSeq (sIf c a sSkip) h r = some (.rt d r') := seq_rt (by rw [sIf_t e]; exact q)
theorem mk_rt {n N : Nat} {s : MS} {as : List Sl} {r' : En} (e : s (as ++ List.replicate (N - n) .un) = some (.rt d r')) : ∃ bs, mkF n N s as = some (.v d, bs) := by
  unfold mkF; rw [e]; exact ⟨_, rfl⟩
end
theorem str_add {s t : List Nat} (h : s.length + t.length ≤ 100) : addD (.str s) (.str t) = some (.str (s ++ t)) := if_pos (Nat.le_trans h (by decide))
theorem sl_of {f : ME} {lo hi : MO} {r : En} {x d : D} {a b : Option Int} (e1 : f r = some x) (e2 : lo r = some a) (e3 : hi r = some b) (e : slD x a b = some d) : mSl f lo hi r = some d := by
  unfold mSl; rw [e1, Option.bind_some, e2, Option.bind_some, e3]; exact e
theorem neg_of {g : ME} {r : En} {i : Int} (e : g r = some (.int i)) : mUn negD g r = some (.int (-i)) := un_of e rfl
theorem osome_of {g : ME} {r : En} {i : Int} (e : g r = some (.int i)) : oSome g r = some (some i) := by
  unfold oSome; rw [e]; rfl
theorem cut_to {α : Type} (s : List α) (k : Nat) : cutL s none (some (k : Int)) = s.take k := by
  unfold cutL
  rw [HT.sIx_nat, HT.sIx_none, List.drop_zero, Nat.sub_zero, List.take_eq_take_iff]
  omega
theorem rng_of {f : ME} {r : En} {n : Nat} (e : f r = some (.int (n : Int))) (h : n < 1000) : mRng1 f r = some ((List.range n).map fun k => .int ((0 : Int) + (k : Nat))) := by
  have h1 : -(2 ^ 62 : Int) ≤ (n : Int) ∧ (n : Int) < 2 ^ 62 := by constructor <;> omega
  have h2 : DD.intD (.int (n : Int)) = some (n : Int) := by unfold DD.intD; rfl
  unfold mRng1
  rw [e, Option.bind_some, h2, Option.bind_some, if_pos h1, Int.toNat_natCast]
  unfold rngD; rfl
theorem bdP {i j : Nat} {a b : D} {r r1 r2 : En} (h1 : setV i a r = some r1) (h2 : setV j b r1 = some r2) : bdSeq 2 (bdCons (setV i) (bdCons (setV j) bdNil)) (.tup [a, b]) r = some r2 := by
  show ((setV i a r).bind fun z => (setV j b z).bind fun y => some y) = _
  rw [h1, Option.bind_some, h2]; rfl
def ItB (K : Fg) (a : Addr) (n : Nat) : It :=
  ⟨fun i H => ∃ xs x, SqL K H a xs ∧ xs.length = n ∧ i < n ∧ xs[n - 1 - i]? = some x, fun i H x H' => H' = H ∧ ∀ xs, SqL K H a xs → xs[n - 1 - i]? = some x, fun i _ => i = n⟩
theorem turn_back {P : Program} {w : World} {K : Fg} {tg : Expr} (a it : Addr) (n : Nat) : Turn P w K tg (ItB K a n) [it] it (fun i h => h.IsRevIter it a ((n : Int) - 1 - (i : Int))) where
  mem := by simp
  obj := fun i h st b hb => by
    have e : b = it := by simpa using hb
    subst e
    obtain ⟨o, e, c, d⟩ := st
    exact ⟨o, e, fun v z => by rw [d] at z; cases z⟩
  keep := fun i h h' st k => st.at fun o e => k it (by simp) o e
  item := by
    intro X hP hw hK hc i pins s σ H E I hf st hg
    subst hP hw hK
    obtain ⟨xs, x, hq, hn, hi, hx⟩ := hg
    obtain ⟨its, rv, p, hz⟩ := I.list hq
    obtain ⟨u, hu, ru⟩ := rv.get hx
    obtain ⟨f0, f1, f2, f3, f4, f5⟩ := hf it (by simp)
    have e1 : (n : Int) - 1 - (i : Int) = ((n - 1 - i : Nat) : Int) := by clear st hu hx hq hn rv p; omega
    rw [e1] at st
    refine wpAny_pyNext_rev_item st p.isList (x := u) (by simpa using hu) fun h' st' sb => ?_
    have e2 : ((n - 1 - i : Nat) : Int) - 1 = (n : Int) - 1 - ((i + 1 : Nat) : Int) := by clear st st' hu hx hq hn rv p; omega
    rw [e2] at st'
    have I1 : Inv X pins σ H { s with heap := h' } := I.turned (t' := s.toks) (fun b o hb e => (sb.2 b hb).trans e) f0 f1 f3 f4 f5
    obtain ⟨o, e, c, d⟩ := id st'
    exact ⟨u, rfl, go_of (s := { s with heap := h' }) e c d (by decide) ⟨x, H, I1, ru, ⟨rfl, fun ys hy => by rw [I.list_inj hy hq]; exact hx⟩, st', fun b hb => (hf b hb).1⟩⟩
  done := by
    intro X hP hw hK hc i pins s σ H E I hf st hg
    subst hP hw hK
    obtain rfl : i = n := hg
    obtain ⟨f0, f1, f2, f3, f4, f5⟩ := hf it (by simp)
    have e1 : (i : Int) - 1 - (i : Int) = -1 := by clear st; omega
    rw [e1] at st
    exact wpAny_pyNext_rev_end (I.ok.hd hc) st fun h' eb => ⟨rfl, I.turned (t' := s.toks) (fun b o hb e => eb b o hb e) f0 f1 f3 f4 f5⟩
  self := fun _ _ _ _ _ st h => wpAny_pyIter_revIter st h
section
variable {X : Cx} {a tg : Expr} {f : ME} {p pos : Pos}
theorem yl_back {K : Fg} {O M : Addr → Prop} (mo : ∀ a, M a → O a) {H : Hp} {a : Addr} {xs : List V} {ds : List D} (ol : OLst O H) (rd : ∀ H1, Keep M H H1 → SqL K H1 a xs) (il : IsL K O H ds xs) : Ylds K O M H (ItB K a xs.length) ds.reverse := by
  intro i H1 O' kp oo
  have kp' : Keep O H H1 := fun b o e n => kp b o e fun z => n (mo b z)
  have rd1 : SqL K H1 a xs := rd H1 kp
  have ll := il.length
  have bk : ∀ d, ds.reverse[i]? = some d → i < xs.length ∧ ds[xs.length - 1 - i]? = some d := fun d e => by
    have hi : i < ds.length := by
      obtain ⟨h, _⟩ := List.getElem?_eq_some_iff.mp e
      rw [List.length_reverse] at h; exact h
    rw [List.getElem?_reverse hi, ll] at e
    exact ⟨ll ▸ hi, e⟩
  refine ⟨fun hi => ⟨?_, fun x H' y => ?_⟩, fun hi => by rw [List.length_reverse, ll] at hi; exact hi⟩
  · obtain ⟨d, e⟩ := get_of_lt hi
    obtain ⟨hi', e'⟩ := bk d e
    obtain ⟨v, e1, _⟩ := il.get e'
    exact ⟨xs, v, rd1, rfl, hi', e1⟩
  · obtain ⟨rfl, y⟩ := y
    refine ⟨Same.refl _, fun d e => ?_⟩
    obtain ⟨hi', e'⟩ := bk d e
    obtain ⟨v, e1, q⟩ := il.get e'
    have := y xs rd1
    rw [e1] at this; cases this
    exact Is.mono kp' ol oo _ _ q
theorem pi_back {ta : TE} (hg : Gl X "reversed") (hm : X.mg "reversed" = none) (ha : PE X a ta) (hs : starEach [a] X.env = [(false, eval a X.env)] := by rfl) :
    PI X tg (.Call (.Name "reversed" p) [a] [] pos) (fun σ H R => ta σ H fun x H1 => ∃ u xs, x = .ref u ∧ SqL X.K H1 u xs ∧ R (ItB X.K u xs.length) H1) := by
  intro pins s σ H R I h
  have hA : PA X [a] (tCons ta tNil) := pa_cons ha pa_nil (by rw [hs]; rfl)
  refine Call_ (ld_blt I hg hm PyProof.Rows.boot_reversed (PyProof.Rows.callWith_type1 (thn (hA pos pins s σ H (z1 fun x H1 => ∃ u xs, x = .ref u ∧ SqL X.K H1 u xs ∧ R (ItB X.K u xs.length) H1) I h) fun us s1 ⟨vs, H1, I1, r1, q1⟩ => ?_) hs rfl))
  obtain ⟨_, rfl, u, xs, rfl, hx, q⟩ := z1_inv q1
  obtain ⟨uu, rfl, ru⟩ := Vals.one r1
  cases ru
  obtain ⟨its, rv, pl, _⟩ := I1.list hx
  have hl : its.toArray.size = xs.length := by rw [List.size_toArray]; exact rv.length.symm
  have z1 : (s1.heap.push (revObj u ((its.toArray.size : Int) - 1))).IsRevIter s1.heap.objs.size u ((its.toArray.size : Int) - 1) := ⟨_, Heap.get?_push_size _ rfl, rfl, rfl⟩
  refine call_reversed_list pl.isList (wpAny_pyIter_revIter z1 ?_)
  refine ⟨_, [s1.heap.objs.size], _, _, H1, rfl, I1.kept (t' := s1.toks) (fun b o e => Heap.get?_push_of_some _ e), turn_back u _ xs.length, ?_, fun b hb => ?_, q⟩
  · rw [hl] at z1 ⊢
    rw [show ((xs.length : Int) - 1 - ((0 : Nat) : Int)) = (xs.length : Int) - 1 from Int.sub_zero _]
    exact z1
  · have e : b = s1.heap.objs.size := by simpa using hb
    subst e
    exact I1.fpOk (Nat.le_refl _) (I1.hok.fresh (Nat.le_refl _))
def mBackK (f : ML) : ML := fun r => (f r).map List.reverse
theorem di_backK {fl : ML} (hg : Gl X "reversed") (hm : X.mg "reversed" = none) (ha : DK X a fl) (hs : starEach [a] X.env = [(false, eval a X.env)] := by rfl) : DI X tg (.Call (.Name "reversed" p) [a] [] pos) (mBackK fl) := by
  refine PI.conseq (pi_back hg hm ha hs) fun σ H Rr hq => ?_
  obtain ⟨O0, r, ds, hR, e, q⟩ := hq
  obtain ⟨l, e1, rfl⟩ := map_some e
  refine ⟨O0, r, l, hR, e1, fun u xs H1 s1 kp il => ?_⟩
  exact ⟨u, xs, rfl, kp H1 fun b o e _ => e, q _ H1 s1 (yl_back (fun a z => .inr z.own) (hR.same s1).ol kp il)⟩
end
section
variable {X : Cx} {a b : Expr} {pos : Pos}
def mMin (fs : ML) : ME := fun r => (fs r).bind fun l => match l with
  | [.int i, .int j] => some (.int (if j < i then j else i))
  | _ => none
theorem de_min {p' : Pos} {es : List Expr} {fs : ML} (hc : X.calm = true) (hg : Gl X "min") (hm : X.mg "min" = none) (ha : DA X (a :: es) fs)
    (hs : starEach (a :: es) X.env = (false, eval a X.env) :: starEach es X.env := by rfl) (hpl : (backTo pos (starEach es X.env)).any (·.1) = false := by rfl) : DE X (.Call (.Name "min" p') (a :: es) [] pos) (mMin fs) := by
  refine PE.conseq (pe_callB (call_min2 hc) hg hm PyProof.Rows.boot_min ha (he := hs) (hpl := hpl)) fun σ H Q hq => ?_
  obtain ⟨O0, r, d, hR, e, q⟩ := hq
  obtain ⟨l, e1, e2⟩ := bind_some e
  refine ⟨O0, r, l, hR, e1, fun vs H1 s1 il => ?_⟩
  split at e2
  · cases e2
    obtain ⟨v, u, rfl, i1, i2⟩ := il.inv2
    rw [Is.int_iff] at i1 i2
    exact ⟨_, _, by rw [i1, i2], q _ H1 s1 (by rw [Is.int_iff])⟩
  · cases e2
def mSumL (fl : ML) : ME := fun r => (fl r).bind fun l => (intsD l).map fun ns => .int ns.sum
theorem call_sumL (hc : X.calm = true) : CallR X (.builtin "sum") (fun xs H Q => ∃ (p : Addr) (ns : List Int), xs = [.ref p] ∧ SqL X.K H p (ns.map V.int) ∧ Q (.int ns.sum) H) := by
  intro pins s σ H xs us Q I r hq
  obtain ⟨p, ns, rfl, hS, q⟩ := hq
  obtain ⟨u, rfl, ru⟩ := Vals.one r
  cases ru
  obtain ⟨its, rv, pl, hz⟩ := I.list hS
  have hi : IntsAre its ns := intsAre_of rv
  obtain ⟨xs, e⟩ := hi.allInts.items
  have hns : ns = xs.toList.map (·.1) := by rw [← hi.numsOf, ← nums_intItems, ← e]
  have pl' := pl.isList
  rw [e] at pl'
  refine sum_intListG (I.ok.hd hc) pl' fun h' tk t' hk => ⟨.int ns.sum, H, I.kept hk, ⟨t', ?_⟩, q⟩
  rw [preSum_eq, hns, List.take_of_length_le (by rw [List.length_map, Array.length_toList]; exact Nat.le_refl _)]
theorem de_sumL {p' : Pos} {fl : ML} (hc : X.calm = true) (hg : Gl X "sum") (hm : X.mg "sum" = none) (ha : DB X a fl)
    (hs : starEach [a] X.env = (false, eval a X.env) :: starEach [] X.env := by rfl) : DE X (.Call (.Name "sum" p') [a] [] pos) (mSumL fl) := by
  refine PE.conseq (pe_callB (call_sumL hc) hg hm PyProof.Rows.boot_sum (pa_cons ha pa_nil hs) (he := hs)) fun σ H Q hq => ?_
  obtain ⟨O0, r, d, hR, e, q⟩ := hq
  obtain ⟨l, e1, e2⟩ := bind_some e
  obtain ⟨ns, e3, rfl⟩ := map_some e2
  refine ⟨O0, r, l, hR, e1, fun p xs H1 s1 sq il => ?_⟩
  have ex := intsD_ok e3 il
  subst ex
  exact ⟨p, ns, rfl, sq, q _ H1 s1 (by rw [Is.int_iff])⟩
end
section
variable {X : Cx} {pos p2 : Pos} {a b : Expr} {f g : ME}
theorem fresh_is {K : Fg} {O : Addr → Prop} {H : Hp} {l : List D} {xs ys : List V} {p : Addr} (ol : OLst O H) (hp : H p = none) (h : IsL K O H l xs) : IsL K (fun b => O b ∨ b = p) (upd H p (.lst ys)) l xs :=
  IsL.mono (Same.kp (same_upd hp) _) ol (fun a z n => z.elim id fun z => by subst z; exact absurd hp n) _ _ h
def mSlB (fl : ML) (lo hi : MO) : ML := fun r => (fl r).bind fun l => (lo r).bind fun i => (hi r).map fun j => cutL l i j
theorem df_slB {lo hi : Option Expr} {fm : ML} {fl fh : MO} (ha : DB X a fm) (hl : DO X lo fl) (hh : DO X hi fh) : DF X (.Subscript a (.Slice lo hi none p2) pos) (mSlB fm fl fh) := by
  refine PE.conseq (pe_slice (r := rSlL X.K) sl_list ha hl hh) fun σ H Q hq => ?_
  obtain ⟨O0, r, d, hR, e, q⟩ := hq
  obtain ⟨l, e1, e⟩ := bind_some e
  obtain ⟨i, e2, e⟩ := bind_some e
  obtain ⟨j, e3, rfl⟩ := map_some e
  refine ⟨O0, r, l, hR, e1, fun p xs H1 s1 sq il => ⟨O0, r, i, hR.same s1, e2, fun H2 s2 => ⟨O0, r, j, hR.same (s1.trans s2), e3, fun H3 s3 => ?_⟩⟩⟩
  have s13 := (s1.trans s2).trans s3
  have R3 := hR.same s13
  have i3 := il.same (s2.trans s3) (hR.same s1).ol
  refine ⟨p, xs, rfl, (s2.trans s3).seq sq, fun t ht => q t _ _ (s13.trans (same_upd ht)) (s13.free ht) upd_same ?_⟩
  exact fresh_is R3.ol ht (i3.cut i j)
def mCat (f g : ML) : ML := fun r => (f r).bind fun l => (g r).bind fun m => if l.length + m.length ≤ sizeLine then some (l ++ m) else none
theorem df_cat {fl gl : ML} (ha : DB X a fl) (hb : DB X b gl) : DF X (.BinOp a .Add b pos) (mCat fl gl) := by
  refine PE.conseq (pe_op op_catR ha hb) fun σ H Q h => ?_
  obtain ⟨O0, r, d, hR, e, q⟩ := h
  obtain ⟨l, e1, e⟩ := bind_some e
  obtain ⟨m, e2, e⟩ := bind_some e
  split at e
  · rename_i hz
    cases e
    refine ⟨O0, r, l, hR, e1, fun p xs H1 s1 sq il => ⟨O0, r, m, hR.same s1, e2, fun p' ys H2 s2 sq' il' => ?_⟩⟩
    refine ⟨p, p', xs, ys, rfl, rfl, s2.seq sq, sq', by rw [← il.length, ← il'.length]; exact hz, fun t ht => q t _ _ ((s1.trans s2).trans (same_upd ht)) ((s1.trans s2).free ht) upd_same ?_⟩
    exact fresh_is (hR.same (s1.trans s2)).ol ht ((il.same s2 (hR.same s1).ol).append il')
  · cases e
def mNeNil (f g : ML) : MB := fun r => (f r).bind fun l => (g r).bind fun m => if m.isEmpty then some (!l.isEmpty) else none
def rNeNil (K : Fg) : R2 := fun x y H Q => ∃ p q xs, x = .ref p ∧ y = .ref q ∧ SqL K H p xs ∧ SqL K H q [] ∧ Q (.bl (!xs.isEmpty)) H
theorem op_neNil (hu : X.A.units < cLine) : OpR X (compareOp .NotEq) (rNeNil X.K) := by
  intro pins s σ H x y v u Q I rx ry h
  obtain ⟨p, q', xs, hx, hy, h1, h2, q⟩ := h
  cases xs with
  | nil => exact op_neL hu pins s σ H x y v u Q I rx ry ⟨p, q', [], [], hx, hy, h1, h2, rfl, rfl, q⟩
  | cons z zs =>
    subst hx hy
    cases rx; cases ry
    obtain ⟨its, r, pl, hz⟩ := I.list h1
    obtain ⟨its2, r2, pl2, hz2⟩ := I.list h2
    have n1 := r.length
    have n2 := r2.length
    simp only [List.length_cons, List.length_nil] at n1 n2
    refine SeqAt.RcNeAt.lists_lengths pl.isList pl2.isList (by simp only [List.size_toArray, bne_iff_ne]; omega) hu _ _ _ _ (fin_bl I q ?_)
    rfl
theorem dt_neNil {fl gl : ML} (hu : X.A.units < cLine) (ha : DB X a fl) (hb : DB X b gl) (hm : behindInMarks .NotEq b = false := by rfl) : DT X (.Compare a [.NotEq] [b] pos) (mNeNil fl gl) := by
  refine PT.conseq (pt_cmpR (op_neNil hu) ha hb hm) fun σ H Q h => ?_
  obtain ⟨O0, r, d, hR, e, q⟩ := h
  obtain ⟨l, e1, e⟩ := bind_some e
  obtain ⟨m, e2, e⟩ := bind_some e
  split at e
  · rename_i hz
    cases e
    refine ⟨O0, r, l, hR, e1, fun p xs H1 s1 sq il => ⟨O0, r, m, hR.same s1, e2, fun p' ys H2 s2 sq' il' => ?_⟩⟩
    have hm : m = [] := by simpa using hz
    subst hm
    unfold IsL at il'
    subst il'
    have hb : l.isEmpty = xs.isEmpty := by
      have := il.length
      cases l <;> cases xs <;> simp_all
    exact ⟨p, p', xs, rfl, rfl, s2.seq sq, sq', _, rfl, by rw [← hb]; exact q H2 (s1.trans s2)⟩
  · cases e
end
def rises (l : List (List Nat)) : Prop := l.Pairwise fun a b => ¬ b < a
open Classical in
noncomputable def srtS (l : List (List Nat)) : List (List Nat) := if h : ∃ m, m.Perm l ∧ rises m then h.choose else l
theorem rises_one {l m : List (List Nat)} (h1 : rises l) (h2 : rises m) (p : l.Perm m) : l = m :=
  List.Perm.eq_of_pairwise (le := fun a b => ¬ b < a) (fun a b _ _ x y => List.le_antisymm (as := a) (bs := b) x y) h1 h2 p
theorem srtS_eq {l m : List (List Nat)} (p : m.Perm l) (h : rises m) : m = srtS l := by
  have ex : ∃ m, m.Perm l ∧ rises m := ⟨m, p, h⟩
  unfold srtS
  rw [dif_pos ex]
  exact rises_one h ex.choose_spec.2 (p.trans ex.choose_spec.1.symm)
theorem srtS_len (l : List (List Nat)) : (srtS l).length = l.length := by
  unfold srtS
  split
  · rename_i h; exact h.choose_spec.1.length_eq
  · rfl
theorem risingS_pw : ∀ (p : Str) (l : List Str), risingS p l = true → ((p :: l).map fun s => s.cps.toList).Pairwise fun a b => ¬ b < a
  | p, [], _ => by simp
  | p, x :: r, h => by
    unfold risingS at h
    rw [Bool.and_eq_true] at h
    have ih := risingS_pw x r h.2
    have hx : ¬ x.cps.toList < p.cps.toList := by
      have := h.1
      rw [ltCps_eq] at this
      simpa using this
    rw [List.map_cons, List.pairwise_cons]
    refine ⟨fun b hb => ?_, ih⟩
    rw [List.map_cons, List.mem_cons] at hb
    rcases hb with rfl | hb
    · exact hx
    · rw [List.map_cons, List.pairwise_cons] at ih
      exact List.le_trans (l₁ := p.cps.toList) (l₂ := x.cps.toList) hx (ih.1 b hb)
theorem sortedS_pw : ∀ (l : List Str), sortedS l = true → rises (l.map fun s => s.cps.toList)
  | [], _ => by simp [rises]
  | x :: r, h => risingS_pw x r h
theorem strsD_map : ∀ (ss : List (List Nat)), strsD (ss.map .str) = some ss
  | [] => rfl
  | s :: ss => by rw [List.map_cons, strsD, strsD_map ss]; rfl
theorem strs_of_vals : ∀ {ss : List (List Nat)} {its : List Value}, Vals (ss.map fun s => V.str ⟨s.toArray⟩) its → StrsAre its (ss.map fun s => (⟨s.toArray⟩ : Str))
  | [], _, .nil => .nil
  | s :: ss, _, .cons r t => by
    obtain ⟨u, rfl⟩ := r
    exact .cons _ _ (strs_of_vals t)
theorem vals_of_strs : ∀ {ss : List Str} {its : List Value}, StrsAre its ss → Vals ((ss.map fun s => s.cps.toList).map fun s => V.str ⟨s.toArray⟩) its
  | _, _, .nil => .nil
  | _, _, .cons x t h => .cons ⟨t, by simp⟩ (vals_of_strs h)
section
variable {X : Cx} {a : Expr} {pos : Pos}
def rSrtS (K : Fg) : List V → Hp → VK → Prop := fun xs H Q => ∃ p ss, xs = [.ref p] ∧ SqL K H p (ss.map fun s => V.str ⟨s.toArray⟩) ∧ ss.length < 64 ∧ ∀ l, H l = none → Q (.ref l) (upd H l (.lst ((srtS ss).map fun s => V.str ⟨s.toArray⟩)))
theorem call_srtS : CallR X (.builtin "sorted") (rSrtS X.K) := by
  intro pins s σ H xs us Q I r h
  obtain ⟨p, ss, rfl, hq, hl, q⟩ := h
  obtain ⟨u, rfl, rx⟩ := vals1 r
  cases rx
  obtain ⟨its, rv, pl, hz⟩ := I.list hq
  have hlen := rv.length
  rw [List.length_map] at hlen
  refine sorted_strs pl.isList (strs_of_vals rv) (by omega) fun out ss' h1 h2 h3 => ?_
  have hp : (ss'.map fun s => s.cps.toList).Perm ss := by
    have := h2.map fun s : Str => s.cps.toList
    simpa [List.map_map, Function.comp_def] using this
  have he := srtS_eq hp (sortedS_pw ss' h3)
  have v1 := vals_of_strs h1
  rw [he] at v1
  obtain ⟨e, hh⟩ := sortedAll_at s.heap its out
  exact ⟨.ref (s.heap.objs.size + 1), _, I.laid (t' := s.toks) (fun b o eb => sortedAll_old eb) (Nat.le_succ _) (show ObjOk X.prog X.w _ _ _ (.lst ((srtS ss).map fun s => V.str ⟨s.toArray⟩)) from ⟨by rw [List.length_map, srtS_len]; simpa using hz, out.toList, e, v1, by rw [Array.toArray_toList]; exact hh⟩), rfl, q _ (I.hok.fresh (Nat.le_succ _))⟩
noncomputable def mSrtS (fl : ML) : ML := fun r => (fl r).bind fun l => (strsD l).bind fun ss => if ss.length < 64 then some ((srtS ss).map .str) else none
theorem df_srtS {p' : Pos} {fl : ML} (hg : Gl X "sorted") (hm : X.mg "sorted" = none) (ha : DB X a fl) (hs : starEach [a] X.env = (false, eval a X.env) :: starEach [] X.env := by rfl) : DF X (.Call (.Name "sorted" p') [a] [] pos) (mSrtS fl) := by
  refine PE.conseq (pe_callB call_srtS hg hm PyProof.Rows.boot_sorted (pa_cons ha pa_nil hs) (he := hs)) fun σ H Q hq => ?_
  obtain ⟨O0, r, d, hR, e, q⟩ := hq
  obtain ⟨l, e1, e⟩ := bind_some e
  obtain ⟨ss, e2, e⟩ := bind_some e
  split at e
  · rename_i hz
    cases e
    refine ⟨O0, r, l, hR, e1, fun p xs H1 s1 sq il => ?_⟩
    have ex := strsD_ok e2 il
    subst ex
    exact ⟨p, ss, rfl, sq, hz, fun t ht => q t _ _ (s1.trans (same_upd ht)) (s1.free ht) upd_same (isl_strs _)⟩
  · cases e
end
def compXL (bd : D → En → Option En) (x : En → Option (D × En)) : List D → En → Option (List D × En)
  | [], r => some ([], r)
  | d :: l, r => (bd d r).bind fun r1 => (x r1).bind fun p => (compXL bd x l p.2).map fun q => (p.1 :: q.1, q.2)
def mCompX (i n : Nat) (it : ML) (bd : D → En → Option En) (x : En → Option (D × En)) : En → Option (D × En) := fun r => (it r).bind fun l => (mtOf r i).bind fun L => if l.length < sizeLine then (compXL bd x l (Sl.p L :: List.replicate (n - 1) Sl.un)).bind fun (q : List D × En) => match (q.2[0]? : Option Sl) with
  | some (.p L') => (putO i L' r).map fun r' => (.lst q.1, r')
  | _ => none
  else none
section
variable {X : Cx} {N' : List Str} {scope : Scope} {elt tg iter : Expr} {pos : Pos} {it : ML} {bd : D → En → Option En} {x : En → Option (D × En)} {i : Nat}
theorem own_p1 {q : Sl → Option (List D)} (hu : q .un = none) {L m : List D} {k j : Nat} (e : ((Sl.p L :: List.replicate k Sl.un)[j]?).bind q = some m) : j = 0 ∧ q (.p L) = some m := by
  cases j with
  | zero => exact ⟨rfl, e⟩
  | succ j =>
    rw [List.getElem?_cons_succ, List.getElem?_replicate] at e
    split at e
    · rw [Option.bind_some, hu] at e; cases e
    · cases e
theorem R.cap1 {K : Fg} {O : Addr → Prop} {H : Hp} {L : List D} {xs : List V} {a : Addr} {k : Nat} (ol : OLst O H) (ha : O a) (ea : H a = some (.lst xs)) (il : IsL K O H L xs) :
    R K O H (.p L :: List.replicate k .un) (some (.ref a) :: List.replicate k none) := by
  have ow : ∀ b, Ow O (.p L :: List.replicate k .un) (some (.ref a) :: List.replicate k none) b → H b ≠ none → O b := fun b z _ => z.elim id fun ⟨j, m, ej, qj⟩ => by
    obtain ⟨rfl, _⟩ := own_p1 rfl ej
    cases qj; exact ha
  have get : ∀ (j : Nat) (x : Sl), (Sl.p L :: List.replicate k Sl.un)[j]? = some x → (j = 0 ∧ x = .p L) ∨ x = .un := fun j x e => by
    cases j with
    | zero => cases e; exact .inl ⟨rfl, rfl⟩
    | succ j =>
      rw [List.getElem?_cons_succ, List.getElem?_replicate] at e
      split at e
      · cases e; exact .inr rfl
      · cases e
  refine ⟨by simp, fun j d e => ?_, fun j m e => ?_, fun j j' b m m' e1 e2 _ _ => ?_, ol, fun j m b e _ => ?_, fun j m b e q => ?_⟩
  · rcases get _ _ e with ⟨_, z⟩ | z <;> cases z
  · obtain ⟨rfl, e2⟩ := own_p1 rfl e
    cases e2
    exact ⟨a, xs, rfl, ea, IsL.mono (Same.kp (Same.refl H) _) ol ow _ _ il⟩
  · rw [(own_p1 rfl e1).1, (own_p1 rfl e2).1]
  · rcases e with e | e <;> rcases get _ _ e with ⟨_, z⟩ | z <;> cases z
  · rcases get _ _ e with ⟨rfl, z⟩ | z
    · cases q; exact ha
    · cases z
theorem dx_compX (hc : X.calm = true) (o : CmpOk X N' [i] scope) (hi : DI X tg iter it) (hg : ∀ C fp s H, DG (cxC X N' scope C fp s H) tg bd) (he : ∀ C fp s H, DX (cxC X N' scope C fp s H) elt x)
    (hx : ∀ r d r', x r = some (d, r') → ∀ σ b, OwnAt r' σ b → OwnAt r σ b) (n : Nat) (hn : N'.length = n := by rfl) (hs : ∀ x, foldedSetIterable iter X.env x = pure x := by intro _; rfl) : DX X (.ListComp elt [⟨tg, iter, [], 0⟩] scope pos) (mCompX i n it bd x) := by
  subst hn
  refine PE.conseq (pe_lcomp (g := lG X.K bd) (te := lX X.K x) (tc := none) hc o hi hg rfl he hs) fun σ H Q h => ?_
  obtain ⟨O0, r, dv, r', hR, e, q⟩ := h
  obtain ⟨l, e1, e⟩ := bind_some e
  obtain ⟨L, e2, e⟩ := bind_some e
  split at e
  · rename_i hlen
    obtain ⟨⟨out, rE⟩, e3, e⟩ := bind_some e
    simp only at e
    split at e
    · rename_i L' eL
      obtain ⟨r2', e4, e5⟩ := map_some e
      have hd1 : D.lst out = dv := congrArg Prod.fst e5
      have hr1 : r2' = r' := congrArg Prod.snd e5
      subst hd1 hr1
      refine ⟨O0, r, l, hR, e1, fun J H1 s1 yl p hp => ?_⟩
      have R1 := hR.same s1
      obtain ⟨a, xs, ha, hxa, il⟩ := mt_at R1 e2
      have mut_a : MutAt r σ a := ⟨i, L, e2, ha⟩
      have own_a : Ow O0 r σ a := .inr mut_a.own
      have hpa : a ≠ p := fun z => by subst z; rw [hp] at hxa; cases hxa
      have hnO : ¬ Ow O0 r σ p := R1.nofresh hp
      let O' : Addr → Prop := fun b => Ow O0 r σ b ∨ b = p
      have ol1 : OLst O' (upd H1 p (.lst [])) := fun b z => by
        by_cases hb : b = p
        · subst hb; exact ⟨_, upd_same⟩
        · rw [upd_ne hb]; exact z.elim (R1.ol b) fun z => absurd z hb
      have hsig : sigC [i] N'.length σ = some (.ref a) :: List.replicate (N'.length - 1) none := by
        unfold sigC
        rw [List.map_cons, List.map_nil, ha]; rfl
      rw [hsig]
      refine ⟨fun k m ys σ2 H2 => m = l.length - k ∧ k ≤ l.length ∧ ys.length ≤ k ∧ H2 p = some (.lst ys) ∧ σ2[0]? = some (some (.ref a)) ∧ (∀ b u, b ≠ a → H1 b = some u → H2 b = some u) ∧ (∀ b, H2 b = none → H1 b = none) ∧
          ∃ r2 dn rest, R X.K O' H2 r2 σ2 ∧ (∀ b, OwnAt r2 σ2 b → b = a) ∧ (∃ L2, r2[0]? = some (.p L2)) ∧ IsL X.K O' H2 dn ys ∧ compXL bd x (l.drop k) r2 = some (rest, rE) ∧ dn ++ rest = out,
        ⟨l.length, by simp, Nat.zero_le _, Nat.le_refl _, upd_same, ?_, ?_, ?_, _, [], out, R.cap1 (k := N'.length - 1) ol1 (.inl own_a) (by rw [upd_ne hpa]; exact hxa) (fresh_is R1.ol hp il), ?_, ⟨L, rfl⟩, .nil, by simpa using e3, rfl⟩, ?_⟩
      · rfl
      · intro b u hb eb
        rw [upd_ne (fun z => by subst z; rw [hp] at eb; cases eb)]; exact eb
      · intro b eb
        by_cases hb : b = p
        · subst hb; exact hp
        · rw [upd_ne hb] at eb; exact eb
      · rintro b ⟨j, m, ej, qj⟩
        obtain ⟨rfl, _⟩ := own_p1 rfl ej
        cases qj; rfl
      · rintro k m ys σ2 H2 ⟨rfl, hkl, hyl, hp2, hs2, kp2, lv2, r2, dn, rest, R2, no2, ⟨L2, eL2⟩, il2, e6, eo⟩
        refine ⟨hp2, by omega, ?_⟩
        have hO : ∀ b, Ow O' r2 σ2 b → O' b := fun b z => z.elim id fun z => .inl (by rw [no2 b z]; exact own_a)
        obtain ⟨y1, y2⟩ := yl k H2 O' (fun b u eb nb => kp2 b u (fun z => nb (by rw [z]; exact mut_a)) eb) fun b z nn => z.elim id fun z => by subst z; exact absurd hp nn
        by_cases hlt : k < l.length
        · obtain ⟨go, yd⟩ := y1 hlt
          have hd : l[k]? = some l[k] := by simp [hlt]
          rw [drop_cons hd] at e6
          obtain ⟨r3, e7, e8⟩ := bind_some e6
          obtain ⟨⟨y, r4⟩, e9, e10⟩ := bind_some e8
          obtain ⟨⟨rest', rE'⟩, e11, e12⟩ := map_some e10
          have ha1 : y :: rest' = rest := congrArg Prod.fst e12
          have ha2 : rE' = rE := congrArg Prod.snd e12
          subst ha1 ha2
          refine .inr ⟨go, fun v H3 yv => ?_⟩
          obtain ⟨s3, iv⟩ := yd v H3 yv
          have R3 := R2.same s3
          refine ⟨O', r2, l[k], r3, R3, ?_, e7, fun σ4 R4 k4 => ?_⟩
          · exact Is.mono (Same.kp (Same.refl H3) _) R3.o0 (fun b z _ => hO b z) _ _ (iv _ hd)
          have hp3 := s3 _ _ hp2
          have no4 : ∀ b, OwnAt r3 σ4 b → b = a := fun b z => by
            rcases k4.new b z with z' | z'
            · exact no2 b z'
            · obtain ⟨zs, ez⟩ := R4.ol b (.inr z)
              rw [z'] at ez; cases ez
          obtain ⟨⟨L3, eL3⟩, hs4⟩ := k4.par 0 L2 eL2
          refine ⟨O', r3, y, r4, R4, e9, fun u H6 R6 k6 iu => ?_⟩
          have nm : ∀ b, MutAt r3 σ4 b → b = a := fun b z => no4 b z.own
          have hp6 : H6 p = some (.lst ys) := k6.keep p _ hp3 fun z => hpa (nm p z).symm
          have no6 : ∀ b, OwnAt r4 σ4 b → b = a := fun b z => by
            exact no4 b (hx _ _ _ e9 σ4 b z)
          obtain ⟨⟨L4, eL4⟩, _⟩ := k6.par 0 L3 eL3
          have kk : Keep O' H6 (upd H6 p (.lst (ys ++ [u]))) := fun b' o' e' nn => by rw [upd_ne (fun z => nn (.inr z))]; exact e'
          have k36 : Keep O' H3 H6 := fun b' o' e' nn => k6.keep b' o' e' fun z => nn (.inl (by rw [nm b' z]; exact own_a))
          refine ⟨hp6, l.length - (k + 1), by omega, rfl, hlt, by simp; omega, upd_same, by rw [hs4]; exact hs2, ?_, ?_, r4, dn ++ [y], rest', ?_, no6, ⟨L4, eL4⟩, ?_, e11, by rw [← eo]; simp⟩
          · intro b u' hb eb
            have hbp : b ≠ p := fun z => by subst z; rw [hp] at eb; cases eb
            rw [upd_ne hbp]
            exact k6.keep b _ (s3 _ _ (kp2 b u' hb eb)) fun z => hb (nm b z)
          · intro b eb
            by_cases hb : b = p
            · subst hb; exact hp
            · rw [upd_ne hb] at eb
              exact lv2 b (s3.free (k6.live b eb))
          · refine ⟨R6.len, fun j d ej => ?_, fun j m ej => ?_, R6.apart, fun b' z => ?_, R6.loc, R6.par⟩
            · obtain ⟨w, q1, q2⟩ := R6.val j d ej
              exact ⟨w, q1, Is.mono (fun b' o' e' nn => kk b' o' e' fun z => nn (.inl z)) R6.ol (fun _ z _ => z) _ _ q2⟩
            · obtain ⟨a', xs', q1, q2, q3⟩ := R6.own j m ej
              have ha' := no6 a' ⟨j, m, ej, q1⟩
              exact ⟨a', xs', q1, by rw [upd_ne (by rw [ha']; exact hpa)]; exact q2, IsL.mono (fun b' o' e' nn => kk b' o' e' fun z => nn (.inl z)) R6.ol (fun _ z _ => z) _ _ q3⟩
            · rcases z with z | z
              · by_cases hb : b' = p
                · subst hb; exact ⟨_, upd_same⟩
                · rw [upd_ne hb]; exact R6.o0 b' (.inl z)
              · subst z; exact ⟨_, upd_same⟩
          · have i1 := IsL.mono k36 R3.o0 (fun _ z _ => z) _ _ (il2.same s3 R2.o0)
            have i2 : Is X.K O' H6 y u := Is.mono (Same.kp (Same.refl H6) _) R6.ol (fun a z _ => .inl z) _ _ iu
            exact IsL.mono kk R6.o0 (fun _ z _ => z) _ _ (i1.append (.cons i2 .nil))
        · have hl : l.drop k = [] := List.drop_eq_nil_of_le (by omega)
          rw [hl] at e6
          have e6' : some ([], r2) = some (rest, rE) := e6
          cases e6'
          rw [List.append_nil] at eo
          subst eo
          obtain ⟨c0, zs, q0, q1, q2⟩ := R2.own 0 L' (by rw [eL]; rfl)
          rw [hs2] at q0; cases q0
          obtain ⟨RE, kE⟩ := R1.put e4 ha kp2 (fun b _ => lv2 b) q1 (IsL.mono (Same.kp (Same.refl H2) _) R2.ol (fun b z _ => .inl (.inl z)) _ _ q2)
          refine .inl ⟨y2 (by omega), q _ H2 RE ((Kp.of_same r σ s1).trans kE) ?_⟩
          rw [Is.lst_iff]
          have np : ∀ b, Ow O0 r2' σ b → Ow O0 r σ b := fun b z => z.imp id fun z => own_put e4 z
          exact ⟨p, ys, rfl, .inl ⟨fun z => hnO (np p z), .inl hp2⟩, IsL.mono (Same.kp (Same.refl H2) _) R2.o0 (fun b z _ => .inl (np b z)) _ _ il2⟩
    · cases e
  · cases e
theorem pop_own {j : Nat} : ∀ r d r', mPop j r = some (d, r') → ∀ σ b, OwnAt r' σ b → OwnAt r σ b := fun r d r' e σ b h => by
  obtain ⟨l, _, e⟩ := bind_some e
  obtain ⟨d', _, e⟩ := bind_some e
  obtain ⟨r2, e3, e4⟩ := map_some e
  have : r2 = r' := congrArg Prod.snd e4
  subst this
  exact own_put e3 h
end
section
variable {X : Cx} {a : Expr} {es : List Expr} {f : ME} {pos p : Pos}
abbrev MXA := En → Option (List D × En)
def lXA (K : Fg) (f : MXA) : TA := fun σ H Q => ∃ O0 r l r', R K O0 H r σ ∧ f r = some (l, r') ∧ ∀ vs H', R K O0 H' r' σ → Kp H r σ H' r' σ → IsL K (Ow O0 r' σ) H' l vs → Q vs H'
def DXA (X : Cx) (es : List Expr) (f : MXA) : Prop := PA X es (lXA X.K f)
def xaLast (fx : En → Option (D × En)) : MXA := fun r => (fx r).map fun p => ([p.1], p.2)
def xaCons (f : ME) (z : MXA) : MXA := fun r => (f r).bind fun d => (z r).map fun q => (d :: q.1, q.2)
theorem dxa_last {fx : En → Option (D × En)} (ha : DX X a fx) (hs : starEach [a] X.env = (false, eval a X.env) :: starEach [] X.env := by rfl) : DXA X [a] (xaLast fx) := by
  refine PA.conseq (pa_cons ha pa_nil hs) fun σ H Q hq => ?_
  obtain ⟨O0, r, l, r', hR, e, q⟩ := hq
  obtain ⟨⟨d, r1⟩, e1, e2⟩ := map_some e
  cases e2
  exact ⟨O0, r, d, r1, hR, e1, fun v H1 R1 k1 i1 => q [v] H1 R1 k1 (.cons i1 .nil)⟩
theorem Is.kp {K : Fg} {O0 : Addr → Prop} {H H' : Hp} {r r' : En} {σ σ' : St} {d : D} {v : V} (hR : R K O0 H r σ) (k : Kp H r σ H' r' σ') (h : Is K (Ow O0 r σ) H d v) : Is K (Ow O0 r' σ') H' d v :=
  Is.mono (fun b o e nn => k.keep b o e fun z => nn (.inr z.own)) hR.ol (fun b z n => z.imp id fun z => (k.new b z).elim id fun z => absurd z n) _ _ h
theorem dxa_cons {z : MXA} (ha : DE X a f) (hr : DXA X es z) (hs : starEach (a :: es) X.env = (false, eval a X.env) :: starEach es X.env := by rfl) : DXA X (a :: es) (xaCons f z) := by
  refine PA.conseq (pa_cons ha hr hs) fun σ H Q hq => ?_
  obtain ⟨O0, r, l, r', hR, e, q⟩ := hq
  obtain ⟨d, e1, e⟩ := bind_some e
  obtain ⟨⟨l', r1⟩, e2, e3⟩ := map_some e
  cases e3
  refine ⟨O0, r, d, hR, e1, fun v H1 s1 i1 => ⟨O0, r, l', r1, hR.same s1, e2, fun vs H2 R2 k2 i2 => q (v :: vs) H2 R2 ((Kp.of_same r σ s1).trans k2) (.cons (Is.kp (hR.same s1) k2 i1) i2)⟩⟩
def mCallXA (n : Nat) (m : MF) (z : MXA) : En → Option (D × En) := fun r => (z r).bind fun q => if q.1.length = n then (m (q.1.map .v)).map fun p => (rsD p.1, q.2) else none
theorem dx_callA {k n : Nat} {fa : Addr} {fd : FuncData} {ps : List Str} {m : MF} {x : Str} {z : MXA} (F : FnOk X.prog X.w X.K X.mg X.base CX0 k fa fd ps (spD X.K n m)) (hr : Room k X.A) (hg : Gl X x) (hm : X.mg x = some (.ref fa)) (hk : PySem.W.keepIn X.K (.ref fa) = true) (hb : Binds X.K fd ps []) (ha : DXA X (a :: es) z)
    (hdb : (x == ("__debug__" : Str)) = false := by decide) (he : starEach (a :: es) X.env = (false, eval a X.env) :: starEach es X.env := by rfl) (hpl : (backTo pos (starEach es X.env)).any (·.1) = false := by rfl) :
    DX X (.Call (.Name x p) (a :: es) [] pos) (mCallXA n m z) := by
  refine PE.conseq (pe_call (E := fun _ _ _ => False) (dvs := []) F hr hg hm hk hb .nil pass0 ha hdb he hpl) fun σ H Q h => ?_
  obtain ⟨O0, r, d, r', hR, e, q⟩ := h
  obtain ⟨⟨ds, r1⟩, e1, e2⟩ := bind_some e
  split at e2
  · rename_i hl
    obtain ⟨⟨rs, as'⟩, e3, e4⟩ := map_some e2
    have h1 : rsD rs = d := congrArg Prod.fst e4
    have h2 : r1 = r' := congrArg Prod.snd e4
    subst h1 h2
    refine ⟨O0, r, ds, r1, hR, e1, fun vs H1 R1 k1 il => sp_pure R1 (Same.refl H1) il hl e3 ?_⟩
    have go : ∀ {H2 : Hp}, Same H1 H2 → R X.K O0 H2 r1 σ ∧ Kp H r σ H2 r1 σ := fun s => ⟨R1.same s, k1.trans (Kp.of_same r1 σ s)⟩
    cases rs with
    | v d => exact fun v H2 pf iv => q v H2 (go pf.same).1 (go pf.same).2 iv
    | f l =>
      refine fun a xs H2 pf na ea il2 => q _ H2 (go pf.same).1 (go pf.same).2 ?_
      have olp : OLst (fun b => Ow O0 r1 σ b ∨ b = a) H2 := fun b z => z.elim (fun z => (R1.same pf.same).ol b z) fun z => by subst z; exact ⟨xs, ea⟩
      show Is X.K (Ow O0 r1 σ) H2 (.lst l) (.ref a)
      rw [Is.lst_iff]
      exact ⟨a, xs, rfl, .inl ⟨R1.nofresh na, .inl ea⟩, IsL.mono (Same.kp (Same.refl H2) _) olp (fun _ z _ => .inl z) _ _ il2⟩
  · cases e2
end
def clash : List D → List D → Bool
  | [], [] => false
  | .int _ :: _, .lst _ :: _ => true
  | _ :: m, _ :: l => clash m l
  | [], _ :: _ => true
  | _ :: _, [] => true
mutual
def apD (l : List D) : D → Bool
  | .tup m => apL l m
  | .lst m => clash m l && apL l m
  | _ => true
def apL (l : List D) : List D → Bool
  | [] => true
  | d :: m => apD l d && apL l m
end
theorem clash_no {K : Fg} {O O' : Addr → Prop} {H : Hp} : ∀ {m l : List D} {xs : List V}, clash m l = true → IsL K O H m xs → IsL K O' H l xs → False
  | [], [], xs, c, _, _ => by simp [clash] at c
  | [], e :: l, xs, _, h, h' => by
    unfold IsL at h; subst h
    unfold IsL at h'; obtain ⟨v, r, e, _⟩ := h'; cases e
  | d :: m, [], xs, _, h, h' => by
    unfold IsL at h'; subst h'
    unfold IsL at h; obtain ⟨v, r, e, _⟩ := h; cases e
  | d :: m, e :: l, xs, c, h, h' => by
    unfold IsL at h; obtain ⟨v, r, rfl, h1, h2⟩ := h
    unfold IsL at h'; obtain ⟨v', r', ee, h1', h2'⟩ := h'
    cases ee
    by_cases hc : clash m l = true
    · exact clash_no hc h2 h2'
    · unfold clash at c
      split at c
      · rename_i e1 e2; cases e1
      · rename_i i t l' t' e1 e2
        cases e1; cases e2
        rw [Is.int_iff] at h1
        rw [Is.lst_iff] at h1'
        obtain ⟨a, ys, q, _⟩ := h1'
        rw [h1] at q; cases q
      · rename_i e1 e2
        cases e1; cases e2
        exact hc c
      · rename_i e1 e2; cases e1
      · rename_i e1 e2; cases e2
mutual
theorem ap_is {K : Fg} {O O' : Addr → Prop} {H : Hp} {a : Addr} {xs : List V} {l : List D} (hO : ∀ b, O b → O' b ∨ b = a) (ha : H a = some (.lst xs)) (il : IsL K O' H l xs) : ∀ (d : D) (v : V), apD l d = true → Is K O' H d v → Is K O H d v
  | .non, v, _, h => by unfold Is at h ⊢; exact h
  | .bl b, v, _, h => by unfold Is at h ⊢; exact h
  | .int i, v, _, h => by unfold Is at h ⊢; exact h
  | .str s, v, _, h => by unfold Is at h ⊢; exact h
  | .ty n, v, _, h => by unfold Is at h ⊢; exact h
  | .ref a, v, _, h => by unfold Is at h ⊢; exact h
  | .tup m, v, p, h => by
    unfold apD at p
    unfold Is at h ⊢
    obtain ⟨b, ys, e, q, r⟩ := h
    exact ⟨b, ys, e, q, apL_is hO ha il m ys p r⟩
  | .lst m, v, p, h => by
    unfold apD at p
    rw [Bool.and_eq_true] at p
    unfold Is at h ⊢
    obtain ⟨b, ys, e, q, r⟩ := h
    refine ⟨b, ys, e, ?_, apL_is hO ha il m ys p.2 r⟩
    rcases q with ⟨n, q⟩ | q
    · refine .inl ⟨fun z => ?_, q⟩
      rcases hO b z with z | z
      · exact n z
      · subst z
        rcases q with q | ⟨o, q⟩
        · rw [ha] at q; cases q
          exact clash_no p.1 r il
        · rw [ha] at q; cases q
    · exact .inr q
theorem apL_is {K : Fg} {O O' : Addr → Prop} {H : Hp} {a : Addr} {xs : List V} {l : List D} (hO : ∀ b, O b → O' b ∨ b = a) (ha : H a = some (.lst xs)) (il : IsL K O' H l xs) : ∀ (m : List D) (vs : List V), apL l m = true → IsL K O' H m vs → IsL K O H m vs
  | [], vs, _, h => by unfold IsL at h ⊢; exact h
  | d :: m, vs, p, h => by
    unfold apL at p
    rw [Bool.and_eq_true] at p
    unfold IsL at h ⊢
    obtain ⟨v, r, e, h1, h2⟩ := h
    exact ⟨v, r, e, ap_is hO ha il d v p.1 h1, apL_is hO ha il m r p.2 h2⟩
end
section
variable {X : Cx} {es : List Expr} {fs : ML} {pos p pn : Pos}
def mCallK (n : Nat) (m : MF) (i : Nat) (fs : ML) : ME := fun r => (mOwn i r).bind fun l => (fs r).bind fun ds => if ds.length + 1 = n then (m ((.lst l :: ds).map .v)).bind fun p => if apD l (rsD p.1) = true then some (rsD p.1) else none else none
theorem de_callK {k n i : Nat} {fa : Addr} {fd : FuncData} {ps : List Str} {m : MF} {x y : Str} (F : FnOk X.prog X.w X.K X.mg X.base CX0 k fa fd ps (spD X.K n m)) (hr : Room k X.A) (hg : Gl X x) (hm : X.mg x = some (.ref fa)) (hk : PySem.W.keepIn X.K (.ref fa) = true) (hb : Binds X.K fd ps []) (hy : PE X (.Name y pn) (tVar i)) (ha : DA X es fs)
    (hdb : (x == ("__debug__" : Str)) = false := by decide) (he : starEach (.Name y pn :: es) X.env = (false, eval (.Name y pn) X.env) :: starEach es X.env := by rfl) (hpl : (backTo pos (starEach es X.env)).any (·.1) = false := by rfl) :
    DE X (.Call (.Name x p) (.Name y pn :: es) [] pos) (mCallK n m i fs) := by
  refine PE.conseq (pe_call (E := fun _ _ _ => False) (dvs := []) F hr hg hm hk hb .nil pass0 (pa_cons hy ha he) hdb he hpl) fun σ H Q hq => ?_
  obtain ⟨O0, r, d, hR, e, q⟩ := hq
  obtain ⟨l, e1, e⟩ := bind_some e
  obtain ⟨ds, e2, e⟩ := bind_some e
  split at e
  · rename_i hn
    obtain ⟨⟨rs, as'⟩, e3, e⟩ := bind_some e
    split at e
    · rename_i hap
      have hd := Option.some.inj e
      subst hd
      obtain ⟨a, xs, q1, q2, q3⟩ := hR.own i l e1
      refine ⟨.ref a, q1, O0, r, ds, hR, e2, fun vs H1 s1 il => ?_⟩
      show spD X.K n m ((.ref a :: vs) ++ []) H1 Q _
      rw [List.append_nil]
      have R1 := hR.same s1
      let O' : Addr → Prop := fun b => Ow O0 r σ b ∧ b ≠ a
      have ol' : OLst O' H1 := fun b z => R1.ol b z.1
      have dn : ∀ {d : D} {v : V}, Is X.K (Ow O0 r σ) H1 d v → Is X.K O' H1 d v := fun h => Is.mono (Same.kp (Same.refl H1) _) R1.ol (fun _ z _ => z.1) _ _ h
      have dnL : ∀ {d : List D} {v : List V}, IsL X.K (Ow O0 r σ) H1 d v → IsL X.K O' H1 d v := fun h => IsL.mono (Same.kp (Same.refl H1) _) R1.ol (fun _ z _ => z.1) _ _ h
      have q2' := s1 _ _ q2
      have q3' := dnL (q3.same s1 hR.ol)
      have ia : IsL X.K O' H1 (.lst l :: ds) (.ref a :: vs) := .cons (by rw [Is.lst_iff]; exact ⟨a, xs, rfl, .inl ⟨fun z => z.2 rfl, .inl q2'⟩, q3'⟩) (dnL il)
      have hO : ∀ b, Ow O0 r σ b → O' b ∨ b = a := fun b z => by
        by_cases hb : b = a
        · exact .inr hb
        · exact .inl ⟨z, hb⟩
      refine ⟨O', (D.lst l :: ds).map .v, rs, as', by simpa using hn, R.args ol' ia, fun j l' => ?_, e3, ?_⟩
      · rw [List.getElem?_map]
        cases e1 : (D.lst l :: ds)[j]? with
        | none => exact ⟨(fun z => by cases z), (fun z => by cases z)⟩
        | some y => exact ⟨(fun z => by cases z), (fun z => by cases z)⟩
      · cases rs with
        | v d' =>
          exact fun v H2 pf iv => q v H2 (s1.trans pf.same) (ap_is hO (pf.same _ _ q2') (q3'.same pf.same ol') _ _ hap iv)
        | f l' =>
          refine fun b ys H2 pf nb eb il2 => q _ H2 (s1.trans pf.same) ?_
          have hap' : apL l l' = true := by
            have : apD l (.lst l') = true := hap
            unfold apD at this
            rw [Bool.and_eq_true] at this
            exact this.2
          have hba : ¬ Ow O0 r σ b := R1.nofresh nb
          have i3 : IsL X.K O' H2 l' ys := IsL.mono (Same.kp (Same.refl H2) _) (fun c z => z.elim (fun z => by
            obtain ⟨zs, ez⟩ := ol' c z; exact ⟨zs, pf.same _ _ ez⟩) fun z => by subst z; exact ⟨ys, eb⟩) (fun _ z _ => .inl z) _ _ il2
          show Is X.K (Ow O0 r σ) H2 (.lst l') (.ref b)
          rw [Is.lst_iff]
          exact ⟨b, ys, rfl, .inl ⟨hba, .inl eb⟩, apL_is hO (pf.same _ _ q2') (q3'.same pf.same ol') _ _ hap' i3⟩
    · cases e
  · cases e
end
end DD
namespace ZZ
open PySem
abbrev lI (t : Addr) : Obj := { cls := .type "list_iterator", data := .fields #[.ref t, .int 0 0] }
abbrev zHM (h : Heap) (t u : Addr) : Heap := ((((h.push (tI t)).push (lI u)).push (tP (.ref h.objs.size) (.ref (h.push (tI t)).objs.size))).push (tP .none .none)).push (tZ ((h.push (tI t)).push (lI u)).objs.size (((h.push (tI t)).push (lI u)).push (tP (.ref h.objs.size) (.ref (h.push (tI t)).objs.size))).objs.size)
theorem znewM (t u : Addr) (xs ys : Array Value) : Meets (Builtin.«zip.__new__» ⟨[.type "zip", .ref t, .ref u], []⟩) (fun _ R s => s.heap.IsTuple t xs ∧ s.heap.IsList u ys ∧ R (.ok (.ret (.ref ((((s.heap.push (tI t)).push (lI u)).push (tP (.ref s.heap.objs.size) (.ref (s.heap.push (tI t)).objs.size))).push (tP .none .none)).objs.size))) { s with heap := zHM s.heap t u }) :=
  .of_wp fun prog w A R s h => by
    obtain ⟨hp, g, d, tk, os⟩ := s; obtain ⟨h1, h2, h⟩ := h
    have hsub := sub_zip
    have L1 : Heap.IsTuple (Shared.heap ⟨hp, g, d, tk, os⟩) t xs := h1
    have L2 : Heap.IsList (Shared.heap ⟨hp.push (tI t), g, d, tk, os⟩) u ys := h2.at fun o e => Heap.get?_push_of_some _ e
    wp_walk using wpAny_pyIter_tuple L1, wpAny_pyIter_list L2
    exact ⟨_, rfl, h⟩
section
variable {prog : Program} {w : World} {A : Around} {E : Value → Shared → Prop} {s : Shared}
theorem zcallM {t u : Addr} {xs ys : Array Value} {Q : Value → Shared → Prop} (h1 : s.heap.IsTuple t xs) (h2 : s.heap.IsList u ys)
    (h : ∀ g, IsZip g (s.heap.objs.size + 4) (s.heap.objs.size + 2) (s.heap.objs.size + 3) .none → IsPair g (s.heap.objs.size + 2) (.ref s.heap.objs.size) (.ref (s.heap.objs.size + 1)) → IsPair g (s.heap.objs.size + 3) .none .none →
      g.IsTupleIter s.heap.objs.size t 0 → g.IsListIter (s.heap.objs.size + 1) u 0 → (∀ c o, s.heap.get? c = some o → g.get? c = some o) → Q (.ref (s.heap.objs.size + 4)) { s with heap := g }) :
    wpAny (model prog w) A (call (.type "zip") [.ref t, .ref u]) Q E s := by
  refine callType_new F.called_zip (by decide) (F.typeCall_zip_2 _ _) (F.newCall_zip_2 _ _) (fun obj => F.args_object_init_3 obj _ _) F.entry_zip_new (znewM t u xs ys) ⟨h1, h2, ?_⟩
  have z1 : (s.heap.push (tI t)).objs.size = s.heap.objs.size + 1 := Heap.size_push ..
  have z2 : ((s.heap.push (tI t)).push (lI u)).objs.size = s.heap.objs.size + 2 := by rw [Heap.size_push, z1]
  have z3 : (((s.heap.push (tI t)).push (lI u)).push (tP (.ref s.heap.objs.size) (.ref (s.heap.push (tI t)).objs.size))).objs.size = s.heap.objs.size + 3 := by rw [Heap.size_push, z2]
  have z4 : ((((s.heap.push (tI t)).push (lI u)).push (tP (.ref s.heap.objs.size) (.ref (s.heap.push (tI t)).objs.size))).push (tP .none .none)).objs.size = s.heap.objs.size + 4 := by rw [Heap.size_push, z3]
  have kp : ∀ c o, s.heap.get? c = some o → (zHM s.heap t u).get? c = some o := fun c o x => Heap.get?_push_of_some _ (Heap.get?_push_of_some _ (Heap.get?_push_of_some _ (Heap.get?_push_of_some _ (Heap.get?_push_of_some _ x))))
  have g1 : (zHM s.heap t u).get? s.heap.objs.size = some (tI t) := Heap.get?_push_of_some _ (Heap.get?_push_of_some _ (Heap.get?_push_of_some _ (Heap.get?_push_of_some _ (Heap.get?_push_size _ rfl))))
  have g2 : (zHM s.heap t u).get? (s.heap.push (tI t)).objs.size = some (lI u) := Heap.get?_push_of_some _ (Heap.get?_push_of_some _ (Heap.get?_push_of_some _ (Heap.get?_push_size _ rfl)))
  have g3 : (zHM s.heap t u).get? ((s.heap.push (tI t)).push (lI u)).objs.size = some (tP (.ref s.heap.objs.size) (.ref (s.heap.push (tI t)).objs.size)) := Heap.get?_push_of_some _ (Heap.get?_push_of_some _ (Heap.get?_push_size _ rfl))
  have g4 : (zHM s.heap t u).get? (((s.heap.push (tI t)).push (lI u)).push (tP (.ref s.heap.objs.size) (.ref (s.heap.push (tI t)).objs.size))).objs.size = some (tP .none .none) := Heap.get?_push_of_some _ (Heap.get?_push_size _ rfl)
  have g5 : (zHM s.heap t u).get? ((((s.heap.push (tI t)).push (lI u)).push (tP (.ref s.heap.objs.size) (.ref (s.heap.push (tI t)).objs.size))).push (tP .none .none)).objs.size = some (tZ ((s.heap.push (tI t)).push (lI u)).objs.size (((s.heap.push (tI t)).push (lI u)).push (tP (.ref s.heap.objs.size) (.ref (s.heap.push (tI t)).objs.size))).objs.size) := Heap.get?_push_size _ rfl
  rw [z4] at g5 ⊢
  rw [z3] at g4 g5
  rw [z2] at g3 g5
  rw [z1] at g2 g3
  exact ⟨⟨_, g5, rfl⟩, h _ g5 g3 g4 ⟨_, g1, rfl, rfl⟩ ⟨_, g2, rfl, rfl⟩ kp⟩
end
end ZZ
namespace DD
open PySem PySem.Spec PyProof.Rows L2
def ItZ2 (sq sq' : Hp → Addr → List V → Prop) (a b : Addr) : It :=
  ⟨fun i H => ∃ xs ys x y, sq H a xs ∧ sq' H b ys ∧ xs[i]? = some x ∧ ys[i]? = some y, fun i H x H' => ∃ T u v, x = .ref T ∧ H T = none ∧ H' = upd H T (.tup [u, v]) ∧ (∀ xs, sq H a xs → xs[i]? = some u) ∧ ∀ ys, sq' H b ys → ys[i]? = some v, fun i H => ∃ xs ys, sq H a xs ∧ sq' H b ys ∧ (xs.length = i ∨ (i < xs.length ∧ ys.length = i))⟩
theorem turn_zip2 {P : Program} {w : World} {K : Fg} {elts : List Expr} {k : Nat} {tp : Pos} {sq : Hp → Addr → List V → Prop} {isI : Heap → Addr → Addr → Nat → Prop} {nm : String} (W : Dw K sq isI nm) {sq' : Hp → Addr → List V → Prop} {isI' : Heap → Addr → Addr → Nat → Prop} {nm' : String} (W' : Dw K sq' isI' nm') (a b z p q i j : Addr) (ap : ZA z p q i j) :
    Turn P w K (.Tuple elts k tp) (ItZ2 sq sq' a b) [z, p, q, i, j] z (fun n h => IsZip h z p q .none ∧ IsPair h p (.ref i) (.ref j) ∧ (∃ u v, IsPair h q u v) ∧ isI h i a n ∧ isI' h j b n) where
  mem := by simp
  obj := fun n h st c hc => by
    obtain ⟨h1, h2, ⟨u, v, h3⟩, h4, h5⟩ := st
    obtain ⟨oi, ei, vi, di⟩ := W.it h4
    obtain ⟨oj, ej, vj, dj⟩ := W'.it h5
    have hc' : c = z ∨ c = p ∨ c = q ∨ c = i ∨ c = j := by simpa using hc
    rcases hc' with rfl | rfl | rfl | rfl | rfl
    · exact ⟨_, h1, fun v z => by cases z⟩
    · exact ⟨_, h2, fun v z => by cases z⟩
    · exact ⟨_, h3, fun v z => by cases z⟩
    · exact ⟨_, ei, fun v z => by rw [di] at z; cases z⟩
    · exact ⟨_, ej, fun v z => by rw [dj] at z; cases z⟩
  keep := fun n h g st kp => by
    obtain ⟨h1, h2, ⟨u, v, h3⟩, h4, h5⟩ := st
    exact ⟨kp z (by simp) _ h1, kp p (by simp) _ h2, ⟨u, v, kp q (by simp) _ h3⟩, W.at_ h4 fun o e => kp i (by simp) o e, W'.at_ h5 fun o e => kp j (by simp) o e⟩
  item := by
    intro X hP hw hK hc n pins s σ H E I hf st hg
    subst hP hw
    obtain ⟨xs, ys, x, y, hx, hy, ex, ey⟩ := hg
    obtain ⟨its, rv, hzx, oa, ea, ca, na, da⟩ := W.get hK I hx
    obtain ⟨its2, rv2, hzy, ob, eb, cb, nb, db⟩ := W'.get hK I hy
    obtain ⟨u, hu, ru⟩ := rv.get ex
    obtain ⟨v, hv, rw'⟩ := rv2.get ey
    obtain ⟨h1, h2, ⟨u0, v0, h3⟩, h4, h5⟩ := st
    have fa : ∀ c ∈ [z, p, q, i, j], a ≠ c := fun c hc => W.ne hK I hx (hf c hc)
    have fb : ∀ c ∈ [z, p, q, i, j], b ≠ c := fun c hc => W'.ne hK I hy (hf c hc)
    have hn : n < its.toArray.size := by obtain ⟨q', _⟩ := List.getElem?_eq_some_iff.mp hu; simpa using q'
    have hm : n < its2.toArray.size := by obtain ⟨q', _⟩ := List.getElem?_eq_some_iff.mp hv; simpa using q'
    have ap' : ZZ.Ap z p q i j [i, a] [j, b] := ⟨ap.pz, ap.qz, ap.iz, ap.jz, ap.pq, ap.pi, ap.pj, ap.qi, ap.qj, ap.ij,
      by simp; exact ⟨ap.iz.symm, (fa z (by simp)).symm⟩, by simp; exact ⟨ap.qi, (fa q (by simp)).symm⟩, by simp; exact ⟨ap.ij.symm, (fa j (by simp)).symm⟩, by simp; exact ⟨ap.jz.symm, (fb z (by simp)).symm⟩, by simp; exact ⟨ap.qj, (fb q (by simp)).symm⟩, by simp; exact ⟨ap.ij, (fb i (by simp)).symm⟩⟩
    refine ZZ.znextI (W.dr (A := X.A.in1) (I.ok.hd hc) i a (fa i (by simp)) its.toArray) (W'.dr (A := X.A.in1) (I.ok.hd hc) j b (fb j (by simp)) its2.toArray) ap' h1 h2 h3 ⟨h4, oa, ea, ca, na, da⟩ ⟨h5, ob, eb, cb, nb, db⟩ hn hm fun x' y' g tk px py z1 q1 s1 u1 t1 sz kp => ⟨_, rfl, ?_⟩
    refine wpAny_letOwnedTupleGo_zip z1 fun g2 z2 sb => ?_
    have hx' : x' = u := by
      have : its[n]? = some x' := by simpa using px
      rw [hu] at this; exact (Option.some.inj this).symm
    have hy' : y' = v := by
      have : its2[n]? = some y' := by simpa using py
      rw [hv] at this; exact (Option.some.inj this).symm
    subst hx' hy'
    have zl : z < s.heap.objs.size := Heap.lt_size h1
    have kp2 : ∀ c o, c ∉ [z, q, i, j] → s.heap.get? c = some o → g2.get? c = some o := fun c o hc e => by
      simp at hc
      exact sb.extBut _ _ hc.1 (kp c o hc.1 hc.2.1 hc.2.2.1 hc.2.2.2 e)
    have isT : IsTup g2 s.heap.objs.size #[x', y'] := ⟨_, sb.extBut _ _ (Nat.ne_of_gt zl) t1, rfl, _, rfl⟩
    have hf' : ∀ c ∈ [z, q, i, j], FpOk X pins H c := fun c hc => hf c (by simp at hc ⊢; rcases hc with h | h | h | h <;> simp [h])
    refine ⟨.ref s.heap.objs.size, upd H s.heap.objs.size (.tup [x, y]), inv_drew (s := s) (t' := tk) I (its := [x', y']) (ch := [z, q, i, j]) hf' (Nat.le_refl _) kp2 (by show 2 ≤ sizeLine; decide) (.cons ru (.cons rw' .nil)) isT, rfl, ⟨_, x, y, rfl, I.hok.fresh (Nat.le_refl _), rfl, fun zs hzs => by rw [W.inj hK I hzs hx]; exact ex, fun zs hzs => by rw [W'.inj hK I hzs hy]; exact ey⟩, ?_, fun c hc => ?_⟩
    · refine ⟨z2, sb.extBut _ _ ap.pz (kp p _ ap.pz ap.pq ap.pi ap.pj h2), ⟨_, _, sb.extBut _ _ ap.qz q1⟩, W.at_ s1.1 fun o e => sb.extBut _ _ ap.iz e, W'.at_ u1.1 fun o e => sb.extBut _ _ ap.jz e⟩
    · have hlt : c < s.heap.objs.size := by
        obtain ⟨oi, ei, _⟩ := W.it h4
        obtain ⟨oj, ej, _⟩ := W'.it h5
        simp at hc
        rcases hc with rfl | rfl | rfl | rfl | rfl
        · exact zl
        · exact Heap.lt_size h2
        · exact Heap.lt_size h3
        · exact Heap.lt_size ei
        · exact Heap.lt_size ej
      rw [upd_ne (Nat.ne_of_lt hlt)]
      exact (hf c hc).1
  done := by
    intro X hP hw hK hc n pins s σ H E I hf st hg
    subst hP hw
    obtain ⟨xs, ys, hx, hy, hl⟩ := hg
    obtain ⟨its, rv, hzx, oa, ea, ca, na, da⟩ := W.get hK I hx
    obtain ⟨its2, rv2, hzy, ob, eb, cb, nb, db⟩ := W'.get hK I hy
    obtain ⟨h1, h2, ⟨u0, v0, h3⟩, h4, h5⟩ := st
    have fa : ∀ c ∈ [z, p, q, i, j], a ≠ c := fun c hc => W.ne hK I hx (hf c hc)
    have fb : ∀ c ∈ [z, p, q, i, j], b ≠ c := fun c hc => W'.ne hK I hy (hf c hc)
    have e1 := rv.length
    have e2 := rv2.length
    have ap' : ZZ.Ap z p q i j [i, a] [j, b] := ⟨ap.pz, ap.qz, ap.iz, ap.jz, ap.pq, ap.pi, ap.pj, ap.qi, ap.qj, ap.ij,
      by simp; exact ⟨ap.iz.symm, (fa z (by simp)).symm⟩, by simp; exact ⟨ap.qi, (fa q (by simp)).symm⟩, by simp; exact ⟨ap.ij.symm, (fa j (by simp)).symm⟩, by simp; exact ⟨ap.jz.symm, (fb z (by simp)).symm⟩, by simp; exact ⟨ap.qj, (fb q (by simp)).symm⟩, by simp; exact ⟨ap.ij, (fb i (by simp)).symm⟩⟩
    have hf' : ∀ c ∈ [z, q, i, j], FpOk X pins H c := fun c hc => hf c (by simp at hc ⊢; rcases hc with h | h | h | h <;> simp [h])
    refine ZZ.znextE (W.dr (A := X.A.in1) (I.ok.hd hc) i a (fa i (by simp)) its.toArray) (W'.dr (A := X.A.in1) (I.ok.hd hc) j b (fb j (by simp)) its2.toArray) ap' h1 h2 h3 ⟨h4, oa, ea, ca, na, da⟩ ⟨h5, ob, eb, cb, nb, db⟩ ?_ fun g tk kp => ⟨rfl, inv_turnL I hf' fun c o hc e => ?_⟩
    · simp only [List.size_toArray]
      rcases hl with h | ⟨h, h'⟩
      · left; omega
      · right; omega
    · simp at hc
      exact kp c o hc.1 hc.2.1 hc.2.2.1 hc.2.2.2 e
  self := fun _ _ _ _ _ st h => wpAny_pyIter_zip st.1 h
theorem yl_zip2 {K : Fg} {O M : Addr → Prop} {sq sq' : Hp → Addr → List V → Prop} (mo : ∀ a, M a → O a) {H : Hp} {u v : Addr} {xs ys : List V} {l m : List D} (ol : OLst O H) (kx : ∀ H1, Keep M H H1 → sq H1 u xs) (ky : ∀ H1, Keep M H H1 → sq' H1 v ys)
    (il : IsL K O H l xs) (im : IsL K O H m ys) : Ylds K O M H (ItZ2 sq sq' u v) (zipD l m) := by
  intro i H1 O' kp oo
  have kp' : Keep O H H1 := fun b o e n => kp b o e fun z => n (mo b z)
  have hlen : (zipD l m).length = min l.length m.length := by simp [zipD]
  refine ⟨fun hi => ⟨?_, fun x H' y => ?_⟩, fun hi => ⟨xs, ys, kx H1 kp, ky H1 kp, ?_⟩⟩
  · obtain ⟨d, e⟩ := get_of_lt hi
    obtain ⟨dx, dy, e1, e2, _⟩ := zip_get e
    obtain ⟨vx, q1, _⟩ := il.get e1
    obtain ⟨vy, q2, _⟩ := im.get e2
    exact ⟨xs, ys, vx, vy, kx H1 kp, ky H1 kp, q1, q2⟩
  · obtain ⟨T, p, q, rfl, nT, rfl, h1, h2⟩ := y
    refine ⟨same_upd nT, fun d e => ?_⟩
    obtain ⟨dx, dy, e1, e2, rfl⟩ := zip_get e
    obtain ⟨vx, q1, i1⟩ := il.get e1
    obtain ⟨vy, q2, i2⟩ := im.get e2
    have p1 := h1 xs (kx H1 kp)
    have p2 := h2 ys (ky H1 kp)
    rw [q1] at p1; rw [q2] at p2
    cases p1; cases p2
    have kk : Keep O H (upd H1 T (.tup [p, q])) := fun b o e' n => by
      have := kp' b o e' n
      rw [upd_ne (ne_of_none this nT)]; exact this
    rw [Is.tup_iff]
    exact ⟨T, _, rfl, SqT.of upd_same, .cons (Is.mono kk ol oo _ _ i1) (.cons (Is.mono kk ol oo _ _ i2) .nil)⟩
  · have e1 := il.length
    have e2 := im.length
    rw [hlen] at hi
    omega
section
variable {X : Cx} {a b : Expr} {f g : ME} {p pos : Pos} {elts : List Expr} {k : Nat} {tp : Pos}
def tZipA (K : Fg) (ta tb : TE) : TI := fun σ H R => ta σ H fun x H1 => tb σ H1 fun y H2 => ∃ u v, x = .ref u ∧ y = .ref v ∧
  (((∃ xs, SqL K H2 u xs) ∧ (∃ ys, SqL K H2 v ys) ∧ R (ItZ (SqL K) u v) H2) ∨ ((∃ xs, SqT K H2 u xs) ∧ (∃ ys, SqT K H2 v ys) ∧ R (ItZ (SqT K) u v) H2) ∨ ((∃ xs, SqT K H2 u xs) ∧ (∃ ys, SqL K H2 v ys) ∧ R (ItZ2 (SqT K) (SqL K) u v) H2))
theorem pi_zipA {ta tb : TE} (hg : Gl X "zip") (hm : X.mg "zip" = none) (ha : PE X a ta) (hb : PE X b tb) (hs : starEach [a, b] X.env = [(false, eval a X.env), (false, eval b X.env)] := by rfl) (hs2 : starEach [b] X.env = [(false, eval b X.env)] := by rfl) :
    PI X (.Tuple elts k tp) (.Call (.Name "zip" p) [a, b] [] pos) (tZipA X.K ta tb) := by
  intro pins s σ H R I h
  have hA : PA X [a, b] (tCons ta (tCons tb tNil)) := pa_cons ha (pa_cons hb pa_nil (by rw [hs2]; rfl)) (by rw [hs, hs2])
  refine Call_ (ld_blt I hg hm PyProof.Rows.boot_zip (PyProof.Rows.callWith_type1 (thn (hA pos pins s σ H (z2 fun x y H2 => ∃ u v, x = .ref u ∧ y = .ref v ∧ (((∃ xs, SqL X.K H2 u xs) ∧ (∃ ys, SqL X.K H2 v ys) ∧ R (ItZ (SqL X.K) u v) H2) ∨ ((∃ xs, SqT X.K H2 u xs) ∧ (∃ ys, SqT X.K H2 v ys) ∧ R (ItZ (SqT X.K) u v) H2) ∨ ((∃ xs, SqT X.K H2 u xs) ∧ (∃ ys, SqL X.K H2 v ys) ∧ R (ItZ2 (SqT X.K) (SqL X.K) u v) H2))) I h) fun us s1 ⟨vs, H1, I1, r1, q1⟩ => ?_) (by rw [hs, hs2]) (by rw [hs2]; rfl)))
  obtain ⟨_, _, rfl, u, v, rfl, rfl, q5⟩ := z2_inv q1
  obtain ⟨uu, vv, rfl, ru, rv⟩ := Vals.two r1
  cases ru
  cases rv
  have fp5 : ∀ b ∈ [s1.heap.objs.size + 4, s1.heap.objs.size + 2, s1.heap.objs.size + 3, s1.heap.objs.size, s1.heap.objs.size + 1], FpOk X pins H1 b := fun b hb => by
    have hle : s1.heap.objs.size ≤ b := by
      simp only [List.not_mem_nil, List.mem_cons, or_false] at hb
      rcases hb with h | h | h | h | h
      · rw [h]; exact Nat.le_add_right _ _
      · rw [h]; exact Nat.le_add_right _ _
      · rw [h]; exact Nat.le_add_right _ _
      · rw [h]; exact Nat.le_refl _
      · rw [h]; exact Nat.le_add_right _ _
    exact I1.fpOk hle (I1.hok.fresh hle)
  rcases q5 with q2 | q2 | q2
  · obtain ⟨⟨xs, hx⟩, ⟨ys, hy⟩, q⟩ := q2
    obtain ⟨its, _, pl, _⟩ := I1.list hx
    obtain ⟨its2, _, pl2, _⟩ := I1.list hy
    refine call_zip_2 pl.isList pl2.isList fun h' z1 z2 z3 z4 z5 _ kp => wpAny_pyIter_zip z1 ?_
    exact ⟨_, _, _, _, H1, rfl, I1.kept (t' := s1.toks) kp, turn_zip (dw_list X.K) u v _ _ _ _ _ (za5 _), ⟨z1, z2, ⟨_, _, z3⟩, z4, z5⟩, fp5, q⟩
  · obtain ⟨⟨xs, hx⟩, ⟨ys, hy⟩, q⟩ := q2
    obtain ⟨its, _, pl, _⟩ := I1.tuple hx
    obtain ⟨its2, _, pl2, _⟩ := I1.tuple hy
    refine ZZ.zcall pl pl2 fun h' z1 z2 z3 z4 z5 kp => wpAny_pyIter_zip z1 ?_
    exact ⟨_, _, _, _, H1, rfl, I1.kept (t' := s1.toks) kp, turn_zip (dw_tup X.K) u v _ _ _ _ _ (za5 _), ⟨z1, z2, ⟨_, _, z3⟩, z4, z5⟩, fp5, q⟩
  · obtain ⟨⟨xs, hx⟩, ⟨ys, hy⟩, q⟩ := q2
    obtain ⟨its, _, pl, _⟩ := I1.tuple hx
    obtain ⟨its2, _, pl2, _⟩ := I1.list hy
    refine ZZ.zcallM pl pl2.isList fun h' z1 z2 z3 z4 z5 kp => wpAny_pyIter_zip z1 ?_
    exact ⟨_, _, _, _, H1, rfl, I1.kept (t' := s1.toks) kp, turn_zip2 (dw_tup X.K) (dw_list X.K) u v _ _ _ _ _ (za5 _), ⟨z1, z2, ⟨_, _, z3⟩, z4, z5⟩, fp5, q⟩
def mZipA (f g : ME) : ML := fun r => (f r).bind fun d => (g r).bind fun e => match d, e with
  | .lst l, .lst m => some (zipD l m)
  | .tup l, .tup m => some (zipD l m)
  | .tup l, .lst m => some (zipD l m)
  | _, _ => none
theorem di_zipA (hg : Gl X "zip") (hm : X.mg "zip" = none) (ha : DE X a f) (hb : DE X b g) (hs : starEach [a, b] X.env = [(false, eval a X.env), (false, eval b X.env)] := by rfl) (hs2 : starEach [b] X.env = [(false, eval b X.env)] := by rfl) :
    DI X (.Tuple elts k tp) (.Call (.Name "zip" p) [a, b] [] pos) (mZipA f g) := by
  refine PI.conseq (pi_zipA hg hm ha hb hs hs2) fun σ H Rr hq => ?_
  obtain ⟨O0, r, ds, hR, e, q⟩ := hq
  obtain ⟨x, e1, e⟩ := bind_some e
  obtain ⟨y, e2, e⟩ := bind_some e
  refine ⟨O0, r, x, hR, e1, fun v1 H1 s1 i1 => ⟨O0, r, y, hR.same s1, e2, fun v2 H2 s2 i2 => ?_⟩⟩
  have R2 := hR.same (s1.trans s2)
  have i1' := i1.same s2 (hR.same s1).ol
  have mo : ∀ a, MutAt r σ a → Ow O0 r σ a := fun a z => .inr z.own
  cases x <;> first | (simp only [reduceCtorEq] at e; done) | skip
  all_goals cases y <;> first | (simp only [reduceCtorEq] at e; done) | skip
  · simp only [Option.some.injEq] at e
    subst e
    rw [Is.tup_iff] at i1' i2
    obtain ⟨u, xs, rfl, hx, il⟩ := i1'
    obtain ⟨v, ys, rfl, hy, im⟩ := i2
    exact ⟨u, v, rfl, rfl, .inr (.inl ⟨⟨xs, hx⟩, ⟨ys, hy⟩, q _ H2 (s1.trans s2) (yl_zip mo R2.ol (keepT mo R2.ol hx) (keepT mo R2.ol hy) il im)⟩)⟩
  · simp only [Option.some.injEq] at e
    subst e
    rw [Is.tup_iff] at i1'
    rw [Is.lst_iff] at i2
    obtain ⟨u, xs, rfl, hx, il⟩ := i1'
    obtain ⟨v, ys, rfl, hy, im⟩ := i2
    exact ⟨u, v, rfl, rfl, .inr (.inr ⟨⟨xs, hx⟩, ⟨ys, hy.sq⟩, q _ H2 (s1.trans s2) (yl_zip2 mo R2.ol (keepT mo R2.ol hx) (keepL mo hy) il im)⟩)⟩
  · simp only [Option.some.injEq] at e
    subst e
    rw [Is.lst_iff] at i1' i2
    obtain ⟨u, xs, rfl, hx, il⟩ := i1'
    obtain ⟨v, ys, rfl, hy, im⟩ := i2
    exact ⟨u, v, rfl, rfl, .inl ⟨⟨xs, hx.sq⟩, ⟨ys, hy.sq⟩, q _ H2 (s1.trans s2) (yl_zip mo R2.ol (keepL mo hx) (keepL mo hy) il im)⟩⟩
end
end DD
namespace K55
open PySem PySem.Spec PyProof.Rows L2 DD
def top (i : Nat) : Stmt := PySem.Challenge.pw_fieldrows_k55_read_by.main.body.getD i (.Pass ⟨0, 0, 0, 0⟩)
def RF : Nat := 40
def WF : Nat := 100000
noncomputable def g_read_in : MS := (sSeq (sIf (mBl (mBin eqA (mBin ixD (mVar 0) (mC (.int 0))) (mC (.str [114, 101, 99]))))
 (sRet (mOfF (mComp [] 2 (mZipA (mBin ixD (mBin ixD (mVar 0) (mC (.int 1))) (mC (.int 1))) (mBin ixD (mVar 1) (mC (.int 1)))) (bdSeq 2 (bdCons (setV 0) (bdCons (setV 1) bdNil))) (mTup (mCons (mBin ixD (mVar 0) (mC (.int 1))) (mCons (mVar 1) mNil))))))
 sSkip)
 (sSeq (sIf (mBl (mBin eqA (mBin ixD (mVar 0) (mC (.int 0))) (mC (.str [111, 110, 101]))))
 (sRet (mOfF (mLstF (mCons (mTup (mCons (mBin ixD (mBin ixD (mBin ixD (mBin ixD (mVar 0) (mC (.int 1))) (mC (.int 1))) (mBin ixD (mVar 1) (mC (.int 1)))) (mC (.int 1))) (mCons (mBin ixD (mVar 1) (mC (.int 2))) mNil))) mNil))))
 sSkip)
 (sRet (mOfF (mLstF mNil)))))
noncomputable def F_read_in : MF := mkF 2 2 g_read_in
noncomputable def g_read_part : MS := (sSeq (sIf (mBl (mBin eqA (mBin ixD (mVar 0) (mC (.int 0))) (mC (.str [114, 101, 99]))))
 (sRet (mTup (mCons (mC (.str [114, 101, 99])) (mCons (mTupOf (mComp [] 2 (mZipA (mBin ixD (mBin ixD (mVar 0) (mC (.int 1))) (mC (.int 1))) (mVar 2)) (bdSeq 2 (bdCons (setV 0) (bdCons (setV 1) bdNil))) (mTup (mCons (mBin ixD (mVar 0) (mC (.int 0))) (mCons (mVar 1) mNil))))) mNil))))
 sSkip)
 (sSeq (sIf (mBl (mBin eqA (mBin ixD (mVar 0) (mC (.int 0))) (mC (.str [111, 110, 101]))))
 (sRet (mTup (mCons (mC (.str [111, 110, 101])) (mCons (mBin ixD (mBin ixD (mBin ixD (mBin ixD (mVar 0) (mC (.int 1))) (mC (.int 1))) (mBin ixD (mVar 1) (mC (.int 1)))) (mC (.int 0))) (mCons (mBin ixD (mVar 2) (mC (.int 0))) mNil)))))
 sSkip)
 (sRet (mVar 1))))
noncomputable def F_read_part : MF := mkF 3 3 g_read_part
noncomputable def g_read_by : MS := (sSeq (sOwn 2 (mLstF mNil))
 (sSeq (sOwn 3 (mLstF (mCons (mTup (mCons (mVar 0) (mCons (mVar 1) mNil))) mNil)))
 (sSeq (sWhile WF (mTruB (mOwn 3))
 (sSeq (sX (mAppX 2 (mPop 3)))
 (sX (mExt 3 (mUn revD (mCall 2 F_read_in (mCons (mBin ixD (mIxB (mOwn 2) (mUn negD (mC (.int 1)))) (mC (.int 0))) (mCons (mBin ixD (mIxB (mOwn 2) (mUn negD (mC (.int 1)))) (mC (.int 1))) mNil))))))))
 (sSeq (sOwn 4 (mLstF mNil))
 (sSeq (sZ 2 (sFor (bdSeq 2 (bdCons (setV 5) (bdCons (setV 6) bdNil))) (mBackK (mZs 2))
 (sX (mAppX 4 (mCallXA 3 F_read_part (xaCons (mVar 5) (xaCons (mVar 6) (xaLast (mCompX 4 2 (mIt (mCall 2 F_read_in (mCons (mVar 5) (mCons (mVar 6) mNil)))) (setV 1) (mPop 0))))))))))
 (sRet (mIxB (mOwn 4) (mC (.int 0)))))))))
noncomputable def F_read_by : MF := mkF 2 7 g_read_by
noncomputable def g__law_whole : MS := (sRet (mAnd (mUn (instD "int") (mVar 0)) (mUn notD (mUn (instD "bool") (mVar 0)))))
noncomputable def F__law_whole : MF := mkF 1 1 g__law_whole
noncomputable def g__law_mixed : MS := (sSeq (sSet 2 (mBin modD (mBin addD (mBin addD (mBin mulD (mBin modD (mVar 0) (mBin powD (mC (.int 10)) (mC (.int 18)))) (mC (.int 48271))) (mBin mulD (mBin mulD (mVar 1) (mVar 1)) (mC (.int 7919)))) (mC (.int 101))) (mC (.int 2147483647))))
 (sRet (mBin modD (mBin mulD (mVar 2) (mVar 2)) (mC (.int 2147483629)))))
noncomputable def F__law_mixed : MF := mkF 2 3 g__law_mixed
noncomputable def g__law_labels : MS := (sSeq (sSet 2 (mC (.str [98, 99, 100, 103, 104, 106, 107, 108, 109, 110, 112, 113, 114, 115, 116, 118, 119, 120, 121, 122])))
 (sSeq (sSet 3 (mBin addD (mC (.int 1)) (mBin modD (mVar 0) (mC (.int 7)))))
 (sSeq (sSet 4 (mBin modD (mBin fdivD (mVar 0) (mC (.int 7))) (mVar 3)))
 (sSeq (sSet 5 (mC (.str [])))
 (sSeq (sFor (setV 6) (mRng1 (mVar 3))
 (sSet 5 (mBin addD (mVar 5) (mBin ixD (mVar 2) (mBin modD (mBin fdivD (mVar 0) (mBin addD (mC (.int 49)) (mVar 6))) (mC (.int 20)))))))
 (sSeq (sOwn 7 (mLstF mNil))
 (sSeq (sFor (setV 6) (mRng1 (mVar 1))
 (sIf (mBl (mBin eqA (mBin modD (mBin fdivD (mVar 0) (mC (.int 50))) (mC (.int 3))) (mC (.int 0))))
 (sX (mApp 7 (mSl (mBin addD (mVar 5) (mC (.str [98, 99, 100, 103, 104, 106, 107, 108]))) oNone (oSome (mBin addD (mC (.int 1)) (mVar 6))))))
 (sSeq (sSet 8 (mBin ixD (mVar 2) (mBin modD (mBin addD (mBin fdivD (mVar 0) (mC (.int 150))) (mBin mulD (mC (.int 3)) (mVar 6))) (mC (.int 20)))))
 (sX (mApp 7 (mBin addD (mBin addD (mSl (mVar 5) oNone (oSome (mVar 4))) (mVar 8)) (mSl (mVar 5) (oSome (mBin addD (mVar 4) (mC (.int 1)))) oNone)))))))
 (sRet (mOfF (mSrtS (mOwn 7)))))))))))
noncomputable def F__law_labels : MF := mkF 2 9 g__law_labels
noncomputable def g__law_tail : MS := (sSeq (sIf (mBl (mBin eqA (mBin modD (mVar 0) (mC (.int 3))) (mC (.int 0))))
 (sRet (mBin modD (mBin fdivD (mVar 0) (mC (.int 3))) (mC (.int 50))))
 sSkip)
 (sRet (mC .non)))
noncomputable def F__law_tail : MF := mkF 1 1 g__law_tail
noncomputable def g__law_leaf : MS := (sSeq (sIf (mBl (mBin eqA (mBin modD (mVar 0) (mC (.int 4))) (mC (.int 0))))
 (sSeq (sSet 1 (mTup (mCons (mC (.str [102, 117, 110])) (mCons (mTup (mCons (mC (.str [110, 117, 109])) mNil)) (mCons (mBin ixD (mOfF (mLstF (mCons (mTup (mCons (mC (.str [110, 117, 109])) mNil)) (mCons (mTup (mCons (mC (.str [118, 97, 114])) (mCons (mBin addD (mC (.int 50)) (mBin modD (mBin fdivD (mVar 0) (mC (.int 4))) (mC (.int 30)))) mNil))) mNil)))) (mBin modD (mBin fdivD (mVar 0) (mC (.int 4))) (mC (.int 2)))) mNil)))))
 (sRet (mOfF (mLstF (mCons (mVar 1) (mCons (mTup (mCons (mC (.str [102, 110])) mNil)) (mCons (mTup (mCons (mC (.str [102, 110])) mNil)) (mCons (mC (.int 3)) mNil))))))))
 sSkip)
 (sRet (mOfF (mLstF (mCons (mTup (mCons (mC (.str [110, 117, 109])) mNil)) (mCons (mBin modD (mBin fdivD (mVar 0) (mC (.int 4))) (mC (.int 1000000))) (mCons (mBin modD (mBin fdivD (mVar 0) (mC (.int 4))) (mC (.int 1000000))) (mCons (mC (.int 1)) mNil))))))))
noncomputable def F__law_leaf : MF := mkF 1 2 g__law_leaf
noncomputable def g__law_record : MS := (sSeq (sSet 2 (mMin (mCons (mBin modD (mVar 1) (mC (.int 5))) (mCons (mUn lenD (mVar 0)) mNil))))
 (sSeq (sSet 3 (mCall 2 F__law_labels (mCons (mBin fdivD (mVar 1) (mC (.int 5))) (mCons (mVar 2) mNil))))
 (sSeq (sSet 4 (mSl (mVar 0) (oSome (mBin subD (mUn lenD (mVar 0)) (mVar 2))) oNone))
 (sSeq (sSet 5 (mTupOf (mComp [3, 4] 3 (mRng1 (mVar 2)) (setV 2) (mTup (mCons (mBin ixD (mVar 0) (mVar 2)) (mCons (mBin ixD (mBin ixD (mVar 1) (mVar 2)) (mC (.int 0))) mNil))))))
 (sSeq (sSet 6 (mTup (mCons (mC (.str [114, 101, 99])) (mCons (mTup (mCons (mC (.str [114, 111, 119])) (mCons (mVar 5) (mCons (mCall 1 F__law_tail (mCons (mBin fdivD (mVar 1) (mC (.int 1000))) mNil)) mNil)))) mNil))))
 (sSeq (sSet 7 (mTup (mCons (mC (.str [114, 101, 99])) (mCons (mTupOf (mComp [3, 4] 3 (mRng1 (mVar 2)) (setV 2) (mTup (mCons (mBin ixD (mVar 0) (mVar 2)) (mCons (mBin ixD (mBin ixD (mVar 1) (mVar 2)) (mC (.int 2))) mNil))))) mNil))))
 (sSeq (sSet 8 (mBin addD (mBin addD (mC (.int 2)) (mVar 2)) (mSumL (mComp [] 1 (mIt (mVar 4)) (setV 0) (mBin ixD (mVar 0) (mC (.int 3)))))))
 (sRet (mTup (mCons (mVar 2) (mCons (mOfF (mLstF (mCons (mVar 6) (mCons (mTup (mCons (mC (.str [114, 101, 99])) (mCons (mTupOf (mComp [] 1 (mIt (mVar 4)) (setV 0) (mBin ixD (mVar 0) (mC (.int 1))))) mNil))) (mCons (mVar 7) (mCons (mVar 8) mNil)))))) mNil)))))))))))
noncomputable def F__law_record : MF := mkF 2 9 g__law_record
noncomputable def g__law_choice : MS := (sSeq (sSet 2 (mBin addD (mC (.int 1)) (mBin modD (mVar 1) (mC (.int 5)))))
 (sSeq (sSet 3 (mBin modD (mBin fdivD (mVar 1) (mC (.int 5))) (mVar 2)))
 (sSeq (sSet 4 (mCall 2 F__law_labels (mCons (mBin fdivD (mVar 1) (mC (.int 25))) (mCons (mVar 2) mNil))))
 (sSeq (sSet 5 (mBin ixD (mVar 0) (mUn negD (mC (.int 1)))))
 (sSeq (sOwn 6 (mLstF mNil))
 (sSeq (sFor (setV 7) (mRng1 (mVar 2))
 (sIf (mBl (mBin eqT (mVar 7) (mVar 3)))
 (sX (mApp 6 (mTup (mCons (mBin ixD (mVar 4) (mVar 7)) (mCons (mBin ixD (mVar 5) (mC (.int 0))) mNil)))))
 (sX (mApp 6 (mTup (mCons (mBin ixD (mVar 4) (mVar 7)) (mCons (mBin ixD (mCall 1 F__law_leaf (mCons (mBin addD (mBin fdivD (mVar 1) (mC (.int 5))) (mVar 7)) mNil)) (mC (.int 0))) mNil)))))))
 (sSeq (sSet 8 (mTup (mCons (mC (.str [111, 110, 101])) (mCons (mTup (mCons (mC (.str [114, 111, 119])) (mCons (mTupOf (mOwn 6)) (mCons (mCall 1 F__law_tail (mCons (mBin fdivD (mVar 1) (mC (.int 1000))) mNil)) mNil)))) mNil))))
 (sRet (mOfF (mLstF (mCons (mVar 8) (mCons (mTup (mCons (mC (.str [111, 110, 101])) (mCons (mVar 3) (mCons (mBin ixD (mVar 5) (mC (.int 1))) mNil)))) (mCons (mTup (mCons (mC (.str [111, 110, 101])) (mCons (mBin ixD (mVar 4) (mVar 3)) (mCons (mBin ixD (mVar 5) (mC (.int 2))) mNil)))) (mCons (mBin addD (mBin addD (mBin ixD (mVar 5) (mC (.int 3))) (mC (.int 2))) (mBin mulD (mC (.int 4)) (mVar 2))) mNil))))))))))))))
noncomputable def F__law_choice : MF := mkF 2 9 g__law_choice
noncomputable def g__law_alike (m : MF) : MS := (sSeq (sIf (mTru (mUn (instD "tuple") (mVar 1)))
 (sSeq (sIf (mOrT (mNotT (mTru (mUn (instD "tuple") (mVar 0)))) (mBl (mBin neA (mUn lenD (mVar 0)) (mUn lenD (mVar 1)))))
 (sRet (mC (.bl false)))
 sSkip)
 (sRet (mAll (mComp [0, 1] 3 (mRng1 (mUn lenD (mVar 1))) (setV 2) (mCall 2 m (mCons (mBin ixD (mVar 0) (mVar 2)) (mCons (mBin ixD (mVar 1) (mVar 2)) mNil)))))))
 sSkip)
 (sSeq (sIf (mTru (mUn (instD "str") (mVar 1)))
 (sRet (mAnd (mUn (instD "str") (mVar 0)) (mBin eqT (mVar 0) (mVar 1))))
 sSkip)
 (sRet (mAnd (mCall 1 F__law_whole (mCons (mVar 0) mNil)) (mBin eqT (mVar 0) (mVar 1))))))
noncomputable def F__law_alike : Nat → MF
  | 0 => fun _ => none
  | k + 1 => mkF 2 2 (g__law_alike (F__law_alike k))
noncomputable def g_law : MS := (sSeq (sOwn 1 (mLstF mNil))
 (sSeq (sFor (bdSeq 2 (bdCons (setV 2) (bdCons (setV 3) bdNil))) (mEnum (mSl (mVar 0) oNone (oSome (mC (.int 90)))))
 (sSeq (sSet 4 (mCall 2 F__law_mixed (mCons (mVar 3) (mCons (mVar 2) mNil))))
 (sSeq (sSet 5 (mBin modD (mVar 4) (mC (.int 5))))
 (sSeq (sSet 4 (mBin fdivD (mVar 4) (mC (.int 5))))
 (sIf (mBl (mBin eqA (mVar 5) (mC (.int 0))))
 (sSeq (sAsg (mCallK 2 F__law_record 1 (mCons (mVar 4) mNil)) (bdSeq 2 (bdCons (setV 6) (bdCons (setV 7) bdNil))))
 (sIf (mBl (mBin leA (mBin ixD (mVar 7) (mC (.int 3))) (mC (.int 40))))
 (sOwn 1 (mCat (mSlB (mOwn 1) oNone (oSome (mBin subD (mLenB (mOwn 1)) (mVar 6)))) (mLstF (mCons (mVar 7) mNil))))
 sSkip))
 (sIf (mAndT (mBl (mBin eqA (mVar 5) (mC (.int 1)))) (mAndT (mNeNil (mOwn 1) (mLstF mNil)) (mBl (mBin leA (mBin ixD (mIxB (mOwn 1) (mUn negD (mC (.int 1)))) (mC (.int 3))) (mC (.int 18))))))
 (sOwn 1 (mCat (mSlB (mOwn 1) oNone (oSome (mUn negD (mC (.int 1))))) (mLstF (mCons (mCallK 2 F__law_choice 1 (mCons (mVar 4) mNil)) mNil))))
 (sX (mApp 1 (mCall 1 F__law_leaf (mCons (mVar 4) mNil))))))))))
 (sSeq (sZ 1 (sFor (bdSeq 4 (bdCons (setV 8) (bdCons (setV 9) (bdCons (setV 10) (bdCons (setV 11) bdNil))))) (mZs 1)
 (sIf (mNotT (mTru (mCall 2 (F__law_alike RF) (mCons (mCall 2 F_read_by (mCons (mVar 8) (mCons (mVar 9) mNil))) (mCons (mVar 10) mNil)))))
 (sRet (mC (.bl false)))
 sSkip)))
 (sRet (mC (.bl true))))))
noncomputable def F_law : MF := mkF 1 12 g_law
structure De (K : Fg) (mg : Str → Option Value) (n : Str) (i : Nat) (ps : List Str) where
  a : Addr
  d : FuncData
  F : Fun K n n (top i) a d
  m : mg n = some (.ref a)
  b : Binds K d ps []
abbrev Ok (P : Program) (w : World) {K : Fg} {mg : Str → Option Value} (base : Heap) {n : Str} {i : Nat} {ps : List Str} (D : De K mg n i ps) (k m : Nat) (F : MF) : Prop := FnOk P w K mg base CX0 k D.a D.d ps (spD K m F)
structure Txt (K : Fg) (mg : Str → Option Value) where
  d_read_in : De K mg "read_in" 2 ["kind", "value"]
  d_read_part : De K mg "read_part" 3 ["kind", "value", "held"]
  d_read_by : De K mg "read_by" 1 ["K", "W"]
  d__law_whole : De K mg "_law_whole" 5 ["_law_found"]
  d__law_mixed : De K mg "_law_mixed" 6 ["_law_cell", "_law_k"]
  d__law_labels : De K mg "_law_labels" 7 ["_law_number", "_law_many"]
  d__law_tail : De K mg "_law_tail" 8 ["_law_number"]
  d__law_leaf : De K mg "_law_leaf" 9 ["_law_number"]
  d__law_record : De K mg "_law_record" 10 ["_law_pile", "_law_number"]
  d__law_choice : De K mg "_law_choice" 11 ["_law_pile", "_law_number"]
  d__law_alike : De K mg "_law_alike" 12 ["_law_found", "_law_due"]
  d_law : De K mg "law" 13 ["_law_script"]
  z_all : mg "all" = none
  z_bool : mg "bool" = none
  z_enumerate : mg "enumerate" = none
  z_int : mg "int" = none
  z_isinstance : mg "isinstance" = none
  z_len : mg "len" = none
  z_min : mg "min" = none
  z_range : mg "range" = none
  z_reversed : mg "reversed" = none
  z_sorted : mg "sorted" = none
  z_str : mg "str" = none
  z_sum : mg "sum" = none
  z_tuple : mg "tuple" = none
  z_zip : mg "zip" = none
section
variable {P : Program} {w : World} {K : Fg} {mg : Str → Option Value} {base : Heap}
theorem sc_read_in : FnScope ["kind", "value"] ["kind", "value"] (defScope (top 2)) := ⟨rfl, rfl, rfl, by decide +kernel, rfl, by decide +kernel, by decide +kernel⟩
theorem ok_read_in (T : Txt K mg) : Ok P w base T.d_read_in 1 2 F_read_in := by
  refine fn_d T.d_read_in.F sc_read_in 2 2 rfl rfl (g := g_read_in) (fun cdv A outer s H E hr => ?_)
  unfold g_read_in
  exact (by refine ds_cons ?_ ?_; exact (ds_if (dt_cmp (op_eqA hr.units0) od_eqA (de_ix (de_var 0 (pv 0)) de_int) (de_str (s := [114, 101, 99]) (by rfl)) (nomark _)) (by refine ds_one ?_; exact (by refine ds_ret ?_; exact (by refine de_f ?_; exact (df_comp (N' := ["field", "held"]) (cap := []) rfl cmp_mk (di_zipA (by rfl) T.z_zip (de_ix (de_ix (de_var 0 (pv 0)) de_int) de_int) (de_ix (de_var 1 (pv 1)) de_int)) (fun _ _ _ _ => (dg_seq rfl (dgs_cons (dg_name 0 (show (["field", "held"] : List Str).Nodup by decide +kernel)) (dgs_cons (dg_name 1 (show (["field", "held"] : List Str).Nodup by decide +kernel)) dgs_nil)))) (fun _ _ _ _ => by exact (by refine de_tup ?_; exact (by refine da_cons ?_ ?_; exact (by refine de_ix ?_ ?_; exact (de_var 0 (pv 0)); exact de_int); refine da_cons ?_ ?_; exact (de_var 1 (pv 1)); exact da_nil))) 2)))) ds_nil); exact (by refine ds_cons ?_ ?_; exact (ds_if (dt_cmp (op_eqA hr.units0) od_eqA (de_ix (de_var 0 (pv 0)) de_int) (de_str (s := [111, 110, 101]) (by rfl)) (nomark _)) (by refine ds_one ?_; exact (by refine ds_ret ?_; exact (by refine de_f ?_; exact (by refine df_lst ?_; exact (da_cons (by refine de_tup ?_; exact (by refine da_cons (de_ix (de_ix (de_ix (de_ix (de_var 0 (pv 0)) de_int) de_int) (de_ix (de_var 1 (pv 1)) de_int)) de_int) ?_ (hs := stSub); refine da_cons (de_ix (de_var 1 (pv 1)) de_int) ?_ (hs := stSub); exact da_nil)) da_nil (hs := stTuple)))))) ds_nil); exact (by refine ds_one ?_; exact (by refine ds_ret ?_; exact (by refine de_f ?_; exact (by refine df_lst ?_; exact da_nil))))))
theorem sc_read_part : FnScope ["kind", "value", "held"] ["kind", "value", "held"] (defScope (top 3)) := ⟨rfl, rfl, rfl, by decide +kernel, rfl, by decide +kernel, by decide +kernel⟩
theorem ok_read_part (T : Txt K mg) : Ok P w base T.d_read_part 1 3 F_read_part := by
  refine fn_d T.d_read_part.F sc_read_part 3 3 rfl rfl (g := g_read_part) (fun cdv A outer s H E hr => ?_)
  unfold g_read_part
  exact (by refine ds_cons ?_ ?_; exact (ds_if (dt_cmp (op_eqA hr.units0) od_eqA (de_ix (de_var 0 (pv 0)) de_int) (de_str (s := [114, 101, 99]) (by rfl)) (nomark _)) (by refine ds_one ?_; exact (by refine ds_ret ?_; exact (by refine de_tup ?_; exact (by refine da_cons (de_str (s := [114, 101, 99]) (by rfl)) ?_ (hs := stConst); refine da_cons (de_tupleOf (by rfl) T.z_tuple (by refine db_f ?_; exact (df_comp (N' := ["field", "part"]) (cap := []) rfl cmp_mk (di_zipA (by rfl) T.z_zip (de_ix (de_ix (de_var 0 (pv 0)) de_int) de_int) (de_var 2 (pv 2))) (fun _ _ _ _ => (dg_seq rfl (dgs_cons (dg_name 0 (show (["field", "part"] : List Str).Nodup by decide +kernel)) (dgs_cons (dg_name 1 (show (["field", "part"] : List Str).Nodup by decide +kernel)) dgs_nil)))) (fun _ _ _ _ => by exact (by refine de_tup ?_; exact (by refine da_cons ?_ ?_; exact (by refine de_ix ?_ ?_; exact (de_var 0 (pv 0)); exact de_int); refine da_cons ?_ ?_; exact (de_var 1 (pv 1)); exact da_nil))) 2))) ?_ (hs := stCall); exact da_nil)))) ds_nil); exact (by refine ds_cons ?_ ?_; exact (ds_if (dt_cmp (op_eqA hr.units0) od_eqA (de_ix (de_var 0 (pv 0)) de_int) (de_str (s := [111, 110, 101]) (by rfl)) (nomark _)) (by refine ds_one ?_; exact (by refine ds_ret ?_; exact (by refine de_tup ?_; exact (by refine da_cons (de_str (s := [111, 110, 101]) (by rfl)) ?_ (hs := stConst); refine da_cons (de_ix (de_ix (de_ix (de_ix (de_var 0 (pv 0)) de_int) de_int) (de_ix (de_var 1 (pv 1)) de_int)) de_int) ?_ (hs := stSub); refine da_cons (de_ix (de_var 2 (pv 2)) de_int) ?_ (hs := stSub); exact da_nil)))) ds_nil); exact (by refine ds_one ?_; exact (by refine ds_ret ?_; exact (de_var 1 (pv 1))))))
theorem sc_read_by : FnScope ["K", "W", "found", "waiting", "done", "kind", "value"] ["K", "W"] (defScope (top 1)) := ⟨rfl, rfl, rfl, by decide +kernel, rfl, by decide +kernel, by decide +kernel⟩
theorem ok_read_by (T : Txt K mg) : Ok P w base T.d_read_by 2 2 F_read_by := by
  refine fn_d T.d_read_by.F sc_read_by 2 7 rfl rfl (g := g_read_by) (fun cdv A outer s H E hr => ?_)
  unfold g_read_by
  exact (by refine ds_cons ?_ ?_; exact (ds_own 2 (by refine df_lst ?_; exact da_nil) sc_read_by.nd); exact (by refine ds_cons ?_ ?_; exact (ds_own 3 (by refine df_lst ?_; exact (da_cons (by refine de_tup ?_; exact (by refine da_cons (de_var 0 (pv 0)) ?_ (hs := stName); refine da_cons (de_var 1 (pv 1)) ?_ (hs := stName); exact da_nil)) da_nil (hs := stTuple))) sc_read_by.nd); exact (by refine ds_cons ?_ ?_; exact (ds_while WF PassesOwn.never (dt_truB (db_own 3 (pv 3))) (by refine ds_cons ?_ ?_; exact (ds_x (dx_appendX 2 (pv 2) (dx_pop 3 (pv 3)))); exact (by refine ds_one ?_; exact (ds_x (dx_extend 3 (pv 3) (de_rev (de_call (ok_read_in T) (hr.mono (by decide)) (by rfl) T.d_read_in.m T.d_read_in.F.kp T.d_read_in.b (by refine da_cons (de_ix (de_ixB (db_own 2 (pv 2)) (de_neg de_int)) de_int) ?_ (hs := stSub); refine da_cons (de_ix (de_ixB (db_own 2 (pv 2)) (de_neg de_int)) de_int) ?_ (hs := stSub); exact da_nil)))))))); exact (by refine ds_cons ?_ ?_; exact (ds_own 4 (by refine df_lst ?_; exact da_nil) sc_read_by.nd); exact (by refine ds_cons ?_ ?_; exact (ds_z 2 (ds_for PassesOwn.never rfl (di_backK (by rfl) T.z_reversed (dk_z 2 (pv 2))) (dg_seq rfl (dgs_cons (dg_name 5 sc_read_by.nd) (dgs_cons (dg_name 6 sc_read_by.nd) dgs_nil))) (by refine ds_one ?_; exact (ds_x (dx_appendX 4 (pv 4) (dx_callA (ok_read_part T) (hr.mono (by decide)) (by rfl) T.d_read_part.m T.d_read_part.F.kp T.d_read_part.b (dxa_cons (de_var 5 (pv 5)) (dxa_cons (de_var 6 (pv 6)) (dxa_last (by refine dx_compX (N' := ["done", "held"]) (i := 4) rfl cmp_mk ?_ ?_ ?_ pop_own 2; exact (di_seq (de_call (ok_read_in T) (hr.mono (by decide)) (by rfl) T.d_read_in.m T.d_read_in.F.kp T.d_read_in.b (by refine da_cons (de_var 5 (pv 5)) ?_ (hs := stName); refine da_cons (de_var 6 (pv 6)) ?_ (hs := stName); exact da_nil))); exact (fun _ _ _ _ => (dg_name 1 (show (["done", "held"] : List Str).Nodup by decide +kernel))); exact (fun _ _ _ _ => by exact (dx_pop 0 (pv 0))))))))))))); exact (by refine ds_one ?_; exact (by refine ds_ret ?_; exact (de_ixB (db_own 4 (pv 4)) de_int))))))))
theorem sc__law_whole : FnScope ["_law_found"] ["_law_found"] (defScope (top 5)) := ⟨rfl, rfl, rfl, by decide +kernel, rfl, by decide +kernel, by decide +kernel⟩
theorem ok__law_whole (T : Txt K mg) : Ok P w base T.d__law_whole 1 1 F__law_whole := by
  refine fn_d T.d__law_whole.F sc__law_whole 1 1 rfl rfl (g := g__law_whole) (fun cdv A outer s H E hr => ?_)
  unfold g__law_whole
  exact (by refine ds_one ?_; exact (by refine ds_ret ?_; exact (de_and (de_isinst (by rfl) T.z_isinstance (de_var 0 (pv 0)) (pe_bltn (by rfl) T.z_int boot_int rfl)) (de_one (de_not (de_isinst (by rfl) T.z_isinstance (de_var 0 (pv 0)) (pe_bltn (by rfl) T.z_bool boot_bool rfl)))))))
theorem sc__law_mixed : FnScope ["_law_cell", "_law_k", "_law_number"] ["_law_cell", "_law_k"] (defScope (top 6)) := ⟨rfl, rfl, rfl, by decide +kernel, rfl, by decide +kernel, by decide +kernel⟩
theorem ok__law_mixed (T : Txt K mg) : Ok P w base T.d__law_mixed 1 2 F__law_mixed := by
  refine fn_d T.d__law_mixed.F sc__law_mixed 2 3 rfl rfl (g := g__law_mixed) (fun cdv A outer s H E hr => ?_)
  unfold g__law_mixed
  exact (by refine ds_cons ?_ ?_; exact (ds_set 2 (de_bin op_mod od_mod (de_bin op_plus od_plus (de_bin op_plus od_plus (de_bin op_mul od_mul (de_bin op_mod od_mod (de_var 0 (pv 0)) (de_bin op_pow od_pow de_int de_int)) de_int) (de_bin op_mul od_mul (de_bin op_mul od_mul (de_var 1 (pv 1)) (de_var 1 (pv 1))) de_int)) de_int) de_int) sc__law_mixed.nd); exact (by refine ds_one ?_; exact (by refine ds_ret ?_; exact (de_bin op_mod od_mod (de_bin op_mul od_mul (de_var 2 (pv 2)) (de_var 2 (pv 2))) de_int))))
theorem sc__law_labels : FnScope ["_law_number", "_law_many", "_law_letters", "_law_size", "_law_place", "_law_base", "_law_k", "_law_found", "_law_sign"] ["_law_number", "_law_many"] (defScope (top 7)) := ⟨rfl, rfl, rfl, by decide +kernel, rfl, by decide +kernel, by decide +kernel⟩
theorem ok__law_labels (T : Txt K mg) : Ok P w base T.d__law_labels 1 2 F__law_labels := by
  refine fn_d T.d__law_labels.F sc__law_labels 2 9 rfl rfl (g := g__law_labels) (fun cdv A outer s H E hr => ?_)
  unfold g__law_labels
  exact (by refine ds_cons ?_ ?_; exact (ds_set 2 (de_str (s := [98, 99, 100, 103, 104, 106, 107, 108, 109, 110, 112, 113, 114, 115, 116, 118, 119, 120, 121, 122]) (by rfl)) sc__law_labels.nd); exact (by refine ds_cons ?_ ?_; exact (ds_set 3 (de_bin op_plus od_plus de_int (de_bin op_mod od_mod (de_var 0 (pv 0)) de_int)) sc__law_labels.nd); exact (by refine ds_cons ?_ ?_; exact (ds_set 4 (de_bin op_mod od_mod (de_bin op_fdiv od_fdiv (de_var 0 (pv 0)) de_int) (de_var 3 (pv 3))) sc__law_labels.nd); exact (by refine ds_cons ?_ ?_; exact (ds_set 5 (de_str (s := []) (by rfl)) sc__law_labels.nd); exact (by refine ds_cons ?_ ?_; exact (ds_for PassesOwn.never rfl (di_rng1 (by rfl) T.z_range (de_var 3 (pv 3))) (dg_name 6 sc__law_labels.nd) (by refine ds_one ?_; exact (ds_set 5 (de_bin op_plus od_plus (de_var 5 (pv 5)) (de_ix (de_var 2 (pv 2)) (de_bin op_mod od_mod (de_bin op_fdiv od_fdiv (de_var 0 (pv 0)) (de_bin op_plus od_plus de_int (de_var 6 (pv 6)))) de_int))) sc__law_labels.nd))); exact (by refine ds_cons ?_ ?_; exact (ds_own 7 (by refine df_lst ?_; exact da_nil) sc__law_labels.nd); exact (by refine ds_cons ?_ ?_; exact (ds_for PassesOwn.never rfl (di_rng1 (by rfl) T.z_range (de_var 1 (pv 1))) (dg_name 6 sc__law_labels.nd) (by refine ds_one ?_; exact (ds_if (dt_cmp (op_eqA hr.units0) od_eqA (de_bin op_mod od_mod (de_bin op_fdiv od_fdiv (de_var 0 (pv 0)) de_int) de_int) de_int (nomark _)) (by refine ds_one ?_; exact (ds_x (dx_append 7 (pv 7) (de_sl (de_bin op_plus od_plus (de_var 5 (pv 5)) (de_str (s := [98, 99, 100, 103, 104, 106, 107, 108]) (by rfl))) do_none (do_some (de_bin op_plus od_plus de_int (de_var 6 (pv 6)))))))) (by refine ds_cons ?_ ?_; exact (ds_set 8 (de_ix (de_var 2 (pv 2)) (de_bin op_mod od_mod (de_bin op_plus od_plus (de_bin op_fdiv od_fdiv (de_var 0 (pv 0)) de_int) (de_bin op_mul od_mul de_int (de_var 6 (pv 6)))) de_int)) sc__law_labels.nd); exact (by refine ds_one ?_; exact (ds_x (dx_append 7 (pv 7) (de_bin op_plus od_plus (de_bin op_plus od_plus (de_sl (de_var 5 (pv 5)) do_none (do_some (de_var 4 (pv 4)))) (de_var 8 (pv 8))) (de_sl (de_var 5 (pv 5)) (do_some (de_bin op_plus od_plus (de_var 4 (pv 4)) de_int)) do_none))))))))); exact (by refine ds_one ?_; exact (by refine ds_ret ?_; exact (by refine de_f ?_; exact (df_srtS (by rfl) T.z_sorted (db_own 7 (pv 7)))))))))))))
theorem sc__law_tail : FnScope ["_law_number"] ["_law_number"] (defScope (top 8)) := ⟨rfl, rfl, rfl, by decide +kernel, rfl, by decide +kernel, by decide +kernel⟩
theorem ok__law_tail (T : Txt K mg) : Ok P w base T.d__law_tail 1 1 F__law_tail := by
  refine fn_d T.d__law_tail.F sc__law_tail 1 1 rfl rfl (g := g__law_tail) (fun cdv A outer s H E hr => ?_)
  unfold g__law_tail
  exact (by refine ds_cons ?_ ?_; exact (ds_if (dt_cmp (op_eqA hr.units0) od_eqA (de_bin op_mod od_mod (de_var 0 (pv 0)) de_int) de_int (nomark _)) (by refine ds_one ?_; exact (by refine ds_ret ?_; exact (de_bin op_mod od_mod (de_bin op_fdiv od_fdiv (de_var 0 (pv 0)) de_int) de_int))) ds_nil); exact (by refine ds_one ?_; exact (by refine ds_ret ?_; exact de_non)))
theorem sc__law_leaf : FnScope ["_law_number", "_law_kind"] ["_law_number"] (defScope (top 9)) := ⟨rfl, rfl, rfl, by decide +kernel, rfl, by decide +kernel, by decide +kernel⟩
theorem ok__law_leaf (T : Txt K mg) : Ok P w base T.d__law_leaf 1 1 F__law_leaf := by
  refine fn_d T.d__law_leaf.F sc__law_leaf 1 2 rfl rfl (g := g__law_leaf) (fun cdv A outer s H E hr => ?_)
  unfold g__law_leaf
  exact (by refine ds_cons ?_ ?_; exact (ds_if (dt_cmp (op_eqA hr.units0) od_eqA (de_bin op_mod od_mod (de_var 0 (pv 0)) de_int) de_int (nomark _)) (by refine ds_cons ?_ ?_; exact (by refine ds_set 1 ?_ ?_ ?_ ?_ ?_ ?_; exact (by refine de_tup ?_; exact (by refine da_cons ?_ ?_; exact (de_str (s := [102, 117, 110]) (by rfl)); refine da_cons ?_ ?_; exact (by refine de_tup ?_; exact (da_cons (de_str (s := [110, 117, 109]) (by rfl)) da_nil (hs := stConst))); refine da_cons ?_ ?_; exact (by refine de_ix ?_ ?_; exact (by refine de_f ?_; exact (by refine df_lst ?_; exact (by refine da_cons (by refine de_tup ?_; exact (da_cons (de_str (s := [110, 117, 109]) (by rfl)) da_nil (hs := stConst))) ?_ (hs := stTuple); refine da_cons (by refine de_tup ?_; exact (by refine da_cons (de_str (s := [118, 97, 114]) (by rfl)) ?_ (hs := stConst); refine da_cons (de_bin op_plus od_plus de_int (de_bin op_mod od_mod (de_bin op_fdiv od_fdiv (de_var 0 (pv 0)) de_int) de_int)) ?_ (hs := stBin); exact da_nil)) ?_ (hs := stTuple); exact da_nil))); exact (de_bin op_mod od_mod (de_bin op_fdiv od_fdiv (de_var 0 (pv 0)) de_int) de_int)); exact da_nil)); exact (id sc__law_leaf.nd); rfl; (first | exact Or.inl rfl | exact Or.inr rfl); rfl; (first | exact Or.inl rfl | exact Or.inr rfl)); exact (by refine ds_one ?_; exact (by refine ds_ret ?_; exact (by refine de_f ?_; exact (by refine df_lst ?_; exact (by refine da_cons (de_var 1 (pv 1)) ?_ (hs := stName); refine da_cons (by refine de_tup ?_; exact (da_cons (de_str (s := [102, 110]) (by rfl)) da_nil (hs := stConst))) ?_ (hs := stTuple); refine da_cons (by refine de_tup ?_; exact (da_cons (de_str (s := [102, 110]) (by rfl)) da_nil (hs := stConst))) ?_ (hs := stTuple); refine da_cons de_int ?_ (hs := stConst); exact da_nil)))))) ds_nil); exact (by refine ds_one ?_; exact (by refine ds_ret ?_; exact (by refine de_f ?_; exact (by refine df_lst ?_; exact (by refine da_cons (by refine de_tup ?_; exact (da_cons (de_str (s := [110, 117, 109]) (by rfl)) da_nil (hs := stConst))) ?_ (hs := stTuple); refine da_cons (de_bin op_mod od_mod (de_bin op_fdiv od_fdiv (de_var 0 (pv 0)) de_int) de_int) ?_ (hs := stBin); refine da_cons (de_bin op_mod od_mod (de_bin op_fdiv od_fdiv (de_var 0 (pv 0)) de_int) de_int) ?_ (hs := stBin); refine da_cons de_int ?_ (hs := stConst); exact da_nil))))))
theorem sc__law_record : FnScope ["_law_pile", "_law_number", "_law_many", "_law_labels_here", "_law_pieces", "_law_fields", "_law_kind", "_law_reads", "_law_size"] ["_law_pile", "_law_number"] (defScope (top 10)) := ⟨rfl, rfl, rfl, by decide +kernel, rfl, by decide +kernel, by decide +kernel⟩
theorem ok__law_record (T : Txt K mg) : Ok P w base T.d__law_record 2 2 F__law_record := by
  refine fn_d T.d__law_record.F sc__law_record 2 9 rfl rfl (g := g__law_record) (fun cdv A outer s H E hr => ?_)
  unfold g__law_record
  exact (by refine ds_cons ?_ ?_; exact (ds_set 2 (de_min (by rfl) (by rfl) T.z_min (by refine da_cons (de_bin op_mod od_mod (de_var 1 (pv 1)) de_int) ?_ (hs := stBin); refine da_cons (de_len (by rfl) T.z_len (de_var 0 (pv 0))) ?_ (hs := stCall); exact da_nil)) sc__law_record.nd); exact (by refine ds_cons ?_ ?_; exact (ds_set 3 (de_call (ok__law_labels T) (hr.mono (by decide)) (by rfl) T.d__law_labels.m T.d__law_labels.F.kp T.d__law_labels.b (by refine da_cons (de_bin op_fdiv od_fdiv (de_var 1 (pv 1)) de_int) ?_ (hs := stBin); refine da_cons (de_var 2 (pv 2)) ?_ (hs := stName); exact da_nil)) sc__law_record.nd); exact (by refine ds_cons ?_ ?_; exact (ds_set 4 (de_sl (de_var 0 (pv 0)) (do_some (de_bin op_sub od_sub (de_len (by rfl) T.z_len (de_var 0 (pv 0))) (de_var 2 (pv 2)))) do_none) sc__law_record.nd); exact (by refine ds_cons ?_ ?_; exact (ds_set 5 (de_tupleOf (by rfl) T.z_tuple (by refine db_f ?_; exact (df_comp (N' := ["_law_labels_here", "_law_pieces", "_law_k"]) (cap := [3, 4]) rfl cmp_mk (di_rng1 (by rfl) T.z_range (de_var 2 (pv 2))) (fun _ _ _ _ => (dg_name 2 (show (["_law_labels_here", "_law_pieces", "_law_k"] : List Str).Nodup by decide +kernel))) (fun _ _ _ _ => by exact (by refine de_tup ?_; exact (by refine da_cons ?_ ?_; exact (by refine de_ix ?_ ?_; exact (de_var 0 (pv 0)); exact (de_var 2 (pv 2))); refine da_cons ?_ ?_; exact (by refine de_ix ?_ ?_; exact (by refine de_ix ?_ ?_; exact (de_var 1 (pv 1)); exact (de_var 2 (pv 2))); exact de_int); exact da_nil))) 3))) sc__law_record.nd); exact (by refine ds_cons ?_ ?_; exact (ds_set 6 (by refine de_tup ?_; exact (by refine da_cons (de_str (s := [114, 101, 99]) (by rfl)) ?_ (hs := stConst); refine da_cons (by refine de_tup ?_; exact (by refine da_cons (de_str (s := [114, 111, 119]) (by rfl)) ?_ (hs := stConst); refine da_cons (de_var 5 (pv 5)) ?_ (hs := stName); refine da_cons (de_call (ok__law_tail T) (hr.mono (by decide)) (by rfl) T.d__law_tail.m T.d__law_tail.F.kp T.d__law_tail.b (da_cons (de_bin op_fdiv od_fdiv (de_var 1 (pv 1)) de_int) da_nil (hs := stBin))) ?_ (hs := stCall); exact da_nil)) ?_ (hs := stTuple); exact da_nil)) sc__law_record.nd); exact (by refine ds_cons ?_ ?_; exact (ds_set 7 (by refine de_tup ?_; exact (by refine da_cons (de_str (s := [114, 101, 99]) (by rfl)) ?_ (hs := stConst); refine da_cons (de_tupleOf (by rfl) T.z_tuple (by refine db_f ?_; exact (df_comp (N' := ["_law_labels_here", "_law_pieces", "_law_k"]) (cap := [3, 4]) rfl cmp_mk (di_rng1 (by rfl) T.z_range (de_var 2 (pv 2))) (fun _ _ _ _ => (dg_name 2 (show (["_law_labels_here", "_law_pieces", "_law_k"] : List Str).Nodup by decide +kernel))) (fun _ _ _ _ => by exact (by refine de_tup ?_; exact (by refine da_cons ?_ ?_; exact (by refine de_ix ?_ ?_; exact (de_var 0 (pv 0)); exact (de_var 2 (pv 2))); refine da_cons ?_ ?_; exact (by refine de_ix ?_ ?_; exact (by refine de_ix ?_ ?_; exact (de_var 1 (pv 1)); exact (de_var 2 (pv 2))); exact de_int); exact da_nil))) 3))) ?_ (hs := stCall); exact da_nil)) sc__law_record.nd); exact (by refine ds_cons ?_ ?_; exact (ds_set 8 (de_bin op_plus od_plus (de_bin op_plus od_plus de_int (de_var 2 (pv 2))) (de_sumL (by rfl) (by rfl) T.z_sum (by refine db_f ?_; exact (df_comp (N' := ["_law_piece"]) (cap := []) rfl cmp_mk (di_seq (de_var 4 (pv 4))) (fun _ _ _ _ => (dg_name 0 (show (["_law_piece"] : List Str).Nodup by decide +kernel))) (fun _ _ _ _ => by exact (by refine de_ix ?_ ?_; exact (de_var 0 (pv 0)); exact de_int)) 1)))) sc__law_record.nd); exact (by refine ds_one ?_; exact (by refine ds_ret ?_; exact (by refine de_tup ?_; exact (by refine da_cons (de_var 2 (pv 2)) ?_ (hs := stName); refine da_cons (by refine de_f ?_; exact (by refine df_lst ?_; exact (by refine da_cons (de_var 6 (pv 6)) ?_ (hs := stName); refine da_cons (by refine de_tup ?_; exact (by refine da_cons (de_str (s := [114, 101, 99]) (by rfl)) ?_ (hs := stConst); refine da_cons (de_tupleOf (by rfl) T.z_tuple (by refine db_f ?_; exact (df_comp (N' := ["_law_piece"]) (cap := []) rfl cmp_mk (di_seq (de_var 4 (pv 4))) (fun _ _ _ _ => (dg_name 0 (show (["_law_piece"] : List Str).Nodup by decide +kernel))) (fun _ _ _ _ => by exact (by refine de_ix ?_ ?_; exact (de_var 0 (pv 0)); exact de_int)) 1))) ?_ (hs := stCall); exact da_nil)) ?_ (hs := stTuple); refine da_cons (de_var 7 (pv 7)) ?_ (hs := stName); refine da_cons (de_var 8 (pv 8)) ?_ (hs := stName); exact da_nil))) ?_ (hs := stList); exact da_nil)))))))))))
theorem sc__law_choice : FnScope ["_law_pile", "_law_number", "_law_many", "_law_place", "_law_labels_here", "_law_held", "_law_fields", "_law_k", "_law_kind"] ["_law_pile", "_law_number"] (defScope (top 11)) := ⟨rfl, rfl, rfl, by decide +kernel, rfl, by decide +kernel, by decide +kernel⟩
theorem ok__law_choice (T : Txt K mg) : Ok P w base T.d__law_choice 2 2 F__law_choice := by
  refine fn_d T.d__law_choice.F sc__law_choice 2 9 rfl rfl (g := g__law_choice) (fun cdv A outer s H E hr => ?_)
  unfold g__law_choice
  exact (by refine ds_cons ?_ ?_; exact (ds_set 2 (de_bin op_plus od_plus de_int (de_bin op_mod od_mod (de_var 1 (pv 1)) de_int)) sc__law_choice.nd); exact (by refine ds_cons ?_ ?_; exact (ds_set 3 (de_bin op_mod od_mod (de_bin op_fdiv od_fdiv (de_var 1 (pv 1)) de_int) (de_var 2 (pv 2))) sc__law_choice.nd); exact (by refine ds_cons ?_ ?_; exact (ds_set 4 (de_call (ok__law_labels T) (hr.mono (by decide)) (by rfl) T.d__law_labels.m T.d__law_labels.F.kp T.d__law_labels.b (by refine da_cons (de_bin op_fdiv od_fdiv (de_var 1 (pv 1)) de_int) ?_ (hs := stBin); refine da_cons (de_var 2 (pv 2)) ?_ (hs := stName); exact da_nil)) sc__law_choice.nd); exact (by refine ds_cons ?_ ?_; exact (ds_set 5 (de_ix (de_var 0 (pv 0)) (de_neg de_int)) sc__law_choice.nd); exact (by refine ds_cons ?_ ?_; exact (ds_own 6 (by refine df_lst ?_; exact da_nil) sc__law_choice.nd); exact (by refine ds_cons ?_ ?_; exact (ds_for PassesOwn.never rfl (di_rng1 (by rfl) T.z_range (de_var 2 (pv 2))) (dg_name 7 sc__law_choice.nd) (by refine ds_one ?_; exact (ds_if (dt_cmp (op_eqT (un2 hr)) od_eqT (de_var 7 (pv 7)) (de_var 3 (pv 3)) (nomark _)) (by refine ds_one ?_; exact (ds_x (dx_append 6 (pv 6) (by refine de_tup ?_; exact (by refine da_cons (de_ix (de_var 4 (pv 4)) (de_var 7 (pv 7))) ?_ (hs := stSub); refine da_cons (de_ix (de_var 5 (pv 5)) de_int) ?_ (hs := stSub); exact da_nil))))) (by refine ds_one ?_; exact (ds_x (dx_append 6 (pv 6) (by refine de_tup ?_; exact (by refine da_cons (de_ix (de_var 4 (pv 4)) (de_var 7 (pv 7))) ?_ (hs := stSub); refine da_cons (de_ix (de_call (ok__law_leaf T) (hr.mono (by decide)) (by rfl) T.d__law_leaf.m T.d__law_leaf.F.kp T.d__law_leaf.b (da_cons (de_bin op_plus od_plus (de_bin op_fdiv od_fdiv (de_var 1 (pv 1)) de_int) (de_var 7 (pv 7))) da_nil (hs := stBin))) de_int) ?_ (hs := stSub); exact da_nil)))))))); exact (by refine ds_cons ?_ ?_; exact (ds_set 8 (by refine de_tup ?_; exact (by refine da_cons (de_str (s := [111, 110, 101]) (by rfl)) ?_ (hs := stConst); refine da_cons (by refine de_tup ?_; exact (by refine da_cons (de_str (s := [114, 111, 119]) (by rfl)) ?_ (hs := stConst); refine da_cons (de_tupleOf (by rfl) T.z_tuple (db_own 6 (pv 6))) ?_ (hs := stCall); refine da_cons (de_call (ok__law_tail T) (hr.mono (by decide)) (by rfl) T.d__law_tail.m T.d__law_tail.F.kp T.d__law_tail.b (da_cons (de_bin op_fdiv od_fdiv (de_var 1 (pv 1)) de_int) da_nil (hs := stBin))) ?_ (hs := stCall); exact da_nil)) ?_ (hs := stTuple); exact da_nil)) sc__law_choice.nd); exact (by refine ds_one ?_; exact (by refine ds_ret ?_; exact (by refine de_f ?_; exact (by refine df_lst ?_; exact (by refine da_cons (de_var 8 (pv 8)) ?_ (hs := stName); refine da_cons (by refine de_tup ?_; exact (by refine da_cons (de_str (s := [111, 110, 101]) (by rfl)) ?_ (hs := stConst); refine da_cons (de_var 3 (pv 3)) ?_ (hs := stName); refine da_cons (de_ix (de_var 5 (pv 5)) de_int) ?_ (hs := stSub); exact da_nil)) ?_ (hs := stTuple); refine da_cons (by refine de_tup ?_; exact (by refine da_cons (de_str (s := [111, 110, 101]) (by rfl)) ?_ (hs := stConst); refine da_cons (de_ix (de_var 4 (pv 4)) (de_var 3 (pv 3))) ?_ (hs := stSub); refine da_cons (de_ix (de_var 5 (pv 5)) de_int) ?_ (hs := stSub); exact da_nil)) ?_ (hs := stTuple); refine da_cons (de_bin op_plus od_plus (de_bin op_plus od_plus (de_ix (de_var 5 (pv 5)) de_int) de_int) (de_bin op_mul od_mul de_int (de_var 2 (pv 2)))) ?_ (hs := stBin); exact da_nil))))))))))))
theorem sc__law_alike : FnScope ["_law_found", "_law_due"] ["_law_found", "_law_due"] (defScope (top 12)) := ⟨rfl, rfl, rfl, by decide +kernel, rfl, by decide +kernel, by decide +kernel⟩
theorem ok__law_alike : ∀ (k : Nat) (T : Txt K mg), Ok P w base T.d__law_alike (k + 1) 2 (F__law_alike k)
  | 0, T => fn_0 2
  | k + 1, T => by
    have G := ok__law_alike k T
    rw [show k + 1 + 1 = (k + 1) + 1 by omega]
    refine fn_d T.d__law_alike.F sc__law_alike 2 2 rfl rfl (g := g__law_alike (F__law_alike k)) (fun cdv A outer s H E hr => ?_)
    unfold g__law_alike
    exact (by refine ds_cons ?_ ?_; exact (ds_if (dt_tru (de_isinst (by rfl) T.z_isinstance (de_var 1 (pv 1)) (pe_bltn (by rfl) T.z_tuple boot_tuple rfl))) (by refine ds_cons ?_ ?_; exact (ds_if (dt_w (dw_or (dt_not (dt_tru (de_isinst (by rfl) T.z_isinstance (de_var 0 (pv 0)) (pe_bltn (by rfl) T.z_tuple boot_tuple rfl)))) (dw_or1 (dt_cmp (op_neA hr.units0) od_neA (de_len (by rfl) T.z_len (de_var 0 (pv 0))) (de_len (by rfl) T.z_len (de_var 1 (pv 1))) (nomark _))))) (by refine ds_one ?_; exact (by refine ds_ret ?_; exact de_bl)) ds_nil); exact (by refine ds_one ?_; exact (by refine ds_ret ?_; exact (de_all (by rfl) T.z_all (by refine db_f ?_; exact (df_comp (N' := ["_law_found", "_law_due", "_law_k"]) (cap := [0, 1]) rfl cmp_mk (di_rng1 (by rfl) T.z_range (de_len (by rfl) T.z_len (de_var 1 (pv 1)))) (fun _ _ _ _ => (dg_name 2 (show (["_law_found", "_law_due", "_law_k"] : List Str).Nodup by decide +kernel))) (fun _ _ _ _ => by exact (de_call G (hr.mono (by omega)) (by rfl) T.d__law_alike.m T.d__law_alike.F.kp T.d__law_alike.b (by refine da_cons ?_ ?_; exact (by refine de_ix ?_ ?_; exact (de_var 0 (pv 0)); exact (de_var 2 (pv 2))); refine da_cons ?_ ?_; exact (by refine de_ix ?_ ?_; exact (de_var 1 (pv 1)); exact (de_var 2 (pv 2))); exact da_nil))) 3)))))) ds_nil); exact (by refine ds_cons ?_ ?_; exact (ds_if (dt_tru (de_isinst (by rfl) T.z_isinstance (de_var 1 (pv 1)) (pe_bltn (by rfl) T.z_str boot_str rfl))) (by refine ds_one ?_; exact (by refine ds_ret ?_; exact (de_and (de_isinst (by rfl) T.z_isinstance (de_var 0 (pv 0)) (pe_bltn (by rfl) T.z_str boot_str rfl)) (de_one (de_cmp (op_eqT (un2 hr)) od_eqT (de_var 0 (pv 0)) (de_var 1 (pv 1)) (nomark _)))))) ds_nil); exact (by refine ds_one ?_; exact (by refine ds_ret ?_; exact (de_and (de_call (ok__law_whole T) (hr.mono (by omega)) (by rfl) T.d__law_whole.m T.d__law_whole.F.kp T.d__law_whole.b (da_cons (de_var 0 (pv 0)) da_nil (hs := stName))) (de_one (de_cmp (op_eqT (un2 hr)) od_eqT (de_var 0 (pv 0)) (de_var 1 (pv 1)) (nomark _))))))))
theorem sc_law : FnScope ["_law_script", "_law_pile", "_law_k", "_law_cell", "_law_number", "_law_word", "_law_many", "_law_one", "_law_kind", "_law_value", "_law_reads", "_law_size"] ["_law_script"] (defScope (top 13)) := ⟨rfl, rfl, rfl, by decide +kernel, rfl, by decide +kernel, by decide +kernel⟩
theorem ok_law (T : Txt K mg) : Ok P w base T.d_law 42 1 F_law := by
  refine fn_d T.d_law.F sc_law 1 12 rfl rfl (g := g_law) (fun cdv A outer s H E hr => ?_)
  unfold g_law
  exact (by refine ds_cons ?_ ?_; exact (ds_own 1 (by refine df_lst ?_; exact da_nil) sc_law.nd); exact (by refine ds_cons ?_ ?_; exact (ds_for PassesOwn.never rfl (di_enum (by rfl) T.z_enumerate (de_sl (de_var 0 (pv 0)) do_none (do_some de_int))) (dg_seq rfl (dgs_cons (dg_name 2 sc_law.nd) (dgs_cons (dg_name 3 sc_law.nd) dgs_nil))) (by refine ds_cons ?_ ?_; exact (ds_set 4 (de_call (ok__law_mixed T) (hr.mono (by decide)) (by rfl) T.d__law_mixed.m T.d__law_mixed.F.kp T.d__law_mixed.b (by refine da_cons (de_var 3 (pv 3)) ?_ (hs := stName); refine da_cons (de_var 2 (pv 2)) ?_ (hs := stName); exact da_nil)) sc_law.nd); exact (by refine ds_cons ?_ ?_; exact (ds_set 5 (de_bin op_mod od_mod (de_var 4 (pv 4)) de_int) sc_law.nd); exact (by refine ds_cons ?_ ?_; exact (ds_set 4 (de_bin op_fdiv od_fdiv (de_var 4 (pv 4)) de_int) sc_law.nd); exact (by refine ds_one ?_; exact (ds_if (dt_cmp (op_eqA hr.units0) od_eqA (de_var 5 (pv 5)) de_int (nomark _)) (by refine ds_cons ?_ ?_; exact (ds_asg (de_callK (ok__law_record T) (hr.mono (by decide)) (by rfl) T.d__law_record.m T.d__law_record.F.kp T.d__law_record.b (pv 1) (da_cons (de_var 4 (pv 4)) da_nil (hs := stName))) (dg_seq rfl (dgs_cons (dg_name 6 sc_law.nd) (dgs_cons (dg_name 7 sc_law.nd) dgs_nil)))); exact (by refine ds_one ?_; exact (ds_if (dt_cmp op_leA od_leA (de_ix (de_var 7 (pv 7)) de_int) de_int (nomark _)) (by refine ds_one ?_; exact (ds_own 1 (df_cat (by refine db_f ?_; exact (df_slB (db_own 1 (pv 1)) do_none (do_some (de_bin op_sub od_sub (de_lenB (by rfl) T.z_len (db_own 1 (pv 1))) (de_var 6 (pv 6)))))) (by refine db_f ?_; exact (by refine df_lst ?_; exact (da_cons (de_var 7 (pv 7)) da_nil (hs := stName))))) sc_law.nd)) ds_nil))) (by refine ds_one ?_; exact (ds_if (dt_w (dw_and (dt_cmp (op_eqA hr.units0) od_eqA (de_var 5 (pv 5)) de_int (nomark _)) (dw_and (dt_neNil hr.units0 (db_own 1 (pv 1)) (by refine db_f ?_; exact (by refine df_lst ?_; exact da_nil))) (dw_and1 (dt_cmp op_leA od_leA (de_ix (de_ixB (db_own 1 (pv 1)) (de_neg de_int)) de_int) de_int (nomark _)))))) (by refine ds_one ?_; exact (ds_own 1 (df_cat (by refine db_f ?_; exact (df_slB (db_own 1 (pv 1)) do_none (do_some (de_neg de_int)))) (by refine db_f ?_; exact (by refine df_lst ?_; exact (da_cons (de_callK (ok__law_choice T) (hr.mono (by decide)) (by rfl) T.d__law_choice.m T.d__law_choice.F.kp T.d__law_choice.b (pv 1) (da_cons (de_var 4 (pv 4)) da_nil (hs := stName))) da_nil (hs := stCall))))) sc_law.nd)) (by refine ds_one ?_; exact (ds_x (dx_append 1 (pv 1) (de_call (ok__law_leaf T) (hr.mono (by decide)) (by rfl) T.d__law_leaf.m T.d__law_leaf.F.kp T.d__law_leaf.b (da_cons (de_var 4 (pv 4)) da_nil (hs := stName)))))))))))))); exact (by refine ds_cons ?_ ?_; exact (ds_z 1 (ds_for PassesOwn.never rfl (di_k (dk_z 1 (pv 1))) (dg_seq rfl (dgs_cons (dg_name 8 sc_law.nd) (dgs_cons (dg_name 9 sc_law.nd) (dgs_cons (dg_name 10 sc_law.nd) (dgs_cons (dg_name 11 sc_law.nd) dgs_nil))))) (by refine ds_one ?_; exact (ds_if (dt_not (dt_tru (de_call (ok__law_alike RF T) (hr.mono (by decide)) (by rfl) T.d__law_alike.m T.d__law_alike.F.kp T.d__law_alike.b (by refine da_cons (de_call (ok_read_by T) (hr.mono (by decide)) (by rfl) T.d_read_by.m T.d_read_by.F.kp T.d_read_by.b (by refine da_cons (de_var 8 (pv 8)) ?_ (hs := stName); refine da_cons (de_var 9 (pv 9)) ?_ (hs := stName); exact da_nil)) ?_ (hs := stCall); refine da_cons (de_var 10 (pv 10)) ?_ (hs := stName); exact da_nil)))) (by refine ds_one ?_; exact (by refine ds_ret ?_; exact de_bl)) ds_nil)))); exact (by refine ds_one ?_; exact (by refine ds_ret ?_; exact de_bl)))))
end
theorem mixed_eq (c : Int) {k : Int} (h0 : 0 ≤ k) (h1 : k ≤ 1000) : ∃ n : Int, 0 ≤ n ∧ ∃ as, F__law_mixed [.v (.int c), .v (.int k)] = some (.v (.int n), as) := by
  let m1 : Int := c % 10 ^ 18
  let n1 : Int := (m1 * 48271 + k * k * 7919 + 101) % 2147483647
  have hm : 0 ≤ m1 ∧ m1 < 10 ^ 18 := ⟨Int.emod_nonneg _ (by decide), Int.emod_lt_of_pos _ (by decide)⟩
  have hn : 0 ≤ n1 ∧ n1 < 2147483647 := ⟨Int.emod_nonneg _ (by decide), Int.emod_lt_of_pos _ (by decide)⟩
  have kk : 0 ≤ k * k ∧ k * k ≤ 1000 * 1000 := ⟨Int.mul_nonneg h0 h0, Int.mul_le_mul h1 h1 h0 (by decide)⟩
  refine ⟨n1 * n1 % 2147483629, Int.emod_nonneg _ (by decide), mk_rt (r' := [.v (.int c), .v (.int k), .v (.int n1)]) ?_⟩
  show g__law_mixed [.v (.int c), .v (.int k), .un] = _
  unfold g__law_mixed
  have p18 : mBin powD (mC (.int 10)) (mC (.int 18)) [.v (.int c), .v (.int k), .un] = some (.int (10 ^ 18)) := bin_of con_of con_of (by simp [powD])
  have e1 : mBin mulD (mBin modD (mVar 0) (mBin powD (mC (.int 10)) (mC (.int 18)))) (mC (.int 48271)) [.v (.int c), .v (.int k), .un] = some (.int (m1 * 48271)) := mul_of (mod_of rfl p18 (by decide)) con_of (by omega)
  have e2 : mBin mulD (mBin mulD (mVar 1) (mVar 1)) (mC (.int 7919)) [.v (.int c), .v (.int k), .un] = some (.int (k * k * 7919)) := mul_of (mul_of rfl rfl (by omega)) con_of (by omega)
  refine seq_set (.int n1) (mod_of (add_of (add_of e1 e2) con_of) con_of (by decide)) (r2 := [.v (.int c), .v (.int k), .v (.int n1)]) (by rfl) ?_
  exact ret_of (mod_of (mul_of rfl rfl (by omega)) con_of (by decide))
def lw (s : List Nat) : Prop := ∀ c ∈ s, c ≤ 122
def abc : List Nat := [98, 99, 100, 103, 104, 106, 107, 108, 109, 110, 112, 113, 114, 115, 116, 118, 119, 120, 121, 122]
theorem abc_at {i : Int} (h0 : 0 ≤ i) (h : i < 20) : ∃ c, c ≤ 122 ∧ ixD (.str abc) (.int i) = some (.str [c]) := by
  obtain ⟨j, rfl⟩ := Int.eq_ofNat_of_zero_le h0; have hj : j < abc.length := by show j < 20; omega
  have a : ∀ c ∈ abc, c ≤ 122 := by decide
  refine ⟨abc[j], a _ (List.getElem_mem hj), ?_⟩
  show (if abc.length ≤ sizeLine then (atI abc (j : Int)).map fun c => D.str [c] else none) = _
  rw [if_pos (by decide), atI_nat (List.getElem?_eq_getElem hj)]; rfl
theorem lw_app {s t : List Nat} (h : lw s) (g : lw t) : lw (s ++ t) := fun c hc => (List.mem_append.mp hc).elim (h c) (g c)
theorem lw_one {c : Nat} (h : c ≤ 122) : lw [c] := fun d hd => by simp at hd; omega
theorem lw_cut {s : List Nat} (h : lw s) (lo hi : Option Int) : lw (cutL s lo hi) := fun c hc => h c (List.mem_of_mem_drop (List.mem_of_mem_take hc))
theorem cut_len (s : List Nat) (lo hi : Option Int) : (cutL s lo hi).length ≤ s.length := cutL_len s lo hi
theorem sl_str_of {s : List Nat} (h : s.length ≤ 100) (lo hi : Option Int) : slD (.str s) lo hi = some (.str (cutL s lo hi)) := by
  show (if s.length ≤ sizeLine then some (D.str (cutL s lo hi)) else none) = _
  rw [if_pos (Nat.le_trans h (by decide))]
def bodyB : MS := (sSet 5 (mBin addD (mVar 5) (mBin ixD (mVar 2) (mBin modD (mBin fdivD (mVar 0) (mBin addD (mC (.int 49)) (mVar 6))) (mC (.int 20))))))
theorem base_loop {n : Int} {m z p : D} : ∀ (ks : List Nat) (s : List Nat) (x : Sl), (∀ k ∈ ks, k < 8) → lw s → s.length + ks.length ≤ 8 → fre x →
    ∃ t x', lw t ∧ t.length ≤ 8 ∧ forL (setV 6) bodyB (ks.map fun k => .int ((0 : Int) + (k : Nat))) [.v (.int n), .v m, .v (.str abc), .v z, .v p, .v (.str s), x, .un, .un] = some (.nx [.v (.int n), .v m, .v (.str abc), .v z, .v p, .v (.str t), x', .un, .un]) ∧ fre x'
  | [], s, x, _, h, hl, hx => ⟨s, x, h, by simpa using hl, rfl, hx⟩
  | k :: ks, s, x, hk, h, hl, hx => by
    rw [List.length_cons] at hl
    have k8 := hk k (by simp)
    have q0 : 0 ≤ n / (49 + ((0 : Int) + (k : Nat))) % 20 := Int.emod_nonneg _ (by decide)
    have q1 : n / (49 + ((0 : Int) + (k : Nat))) % 20 < 20 := Int.emod_lt_of_pos _ (by decide)
    obtain ⟨c, c1, hc⟩ := abc_at q0 q1
    obtain ⟨t, x', t1, t2, t3, t4⟩ := base_loop ks (s ++ [c]) (.v (.int ((0 : Int) + (k : Nat)))) (fun j hj => hk j (by simp [hj])) (lw_app h (lw_one c1)) (by simp; omega) trivial
    refine ⟨t, x', t1, t2, ?_, t4⟩
    have b : bodyB [.v (.int n), .v m, .v (.str abc), .v z, .v p, .v (.str s), .v (.int ((0 : Int) + (k : Nat))), .un, .un] = some (.nx [.v (.int n), .v m, .v (.str abc), .v z, .v p, .v (.str (s ++ [c])), .v (.int ((0 : Int) + (k : Nat))), .un, .un]) := by
      unfold bodyB
      exact sSet_of (d := .str (s ++ [c])) (bin_of (x := .str s) rfl (bin_of (x := .str abc) rfl (mod_of (fdiv_of (i := n) rfl (add_of con_of rfl) (by omega)) con_of (by decide)) hc) (str_add (by show _ + 1 ≤ _; omega))) (by rfl)
    rw [List.map_cons, for_go (setV_fre (x := x) rfl hx) b, t3]
def bodyF : MS := (sIf (mBl (mBin eqA (mBin modD (mBin fdivD (mVar 0) (mC (.int 50))) (mC (.int 3))) (mC (.int 0))))
 (sX (mApp 7 (mSl (mBin addD (mVar 5) (mC (.str [98, 99, 100, 103, 104, 106, 107, 108]))) oNone (oSome (mBin addD (mC (.int 1)) (mVar 6))))))
 (sSeq (sSet 8 (mBin ixD (mVar 2) (mBin modD (mBin addD (mBin fdivD (mVar 0) (mC (.int 150))) (mBin mulD (mC (.int 3)) (mVar 6))) (mC (.int 20)))))
 (sX (mApp 7 (mBin addD (mBin addD (mSl (mVar 5) oNone (oSome (mVar 4))) (mVar 8)) (mSl (mVar 5) (oSome (mBin addD (mVar 4) (mC (.int 1)))) oNone))))))
def tl8 : List Nat := [98, 99, 100, 103, 104, 106, 107, 108]
theorem eq_int {f g : ME} {r : En} {i j : Int} (e1 : f r = some (.int i)) (e2 : g r = some (.int j)) : mBl (mBin eqA f g) r = some (decide (i = j)) := bl_of (bin_of e1 e2 rfl)
theorem found_loop {n p : Int} {m z : D} {b : List Nat} (hb : lw b) (lb : b.length ≤ 8) : ∀ (ks : List Nat) (A : List (List Nat)) (x y : Sl), (∀ w ∈ A, lw w) → A.length + ks.length ≤ 50 → fre x → fre y →
    ∃ (A' : List (List Nat)) (x' y' : Sl), (∀ w ∈ A', lw w) ∧ A'.length = A.length + ks.length ∧ forL (setV 6) bodyF (ks.map fun k => .int ((0 : Int) + (k : Nat))) [.v (.int n), .v m, .v (.str abc), .v z, .v (.int p), .v (.str b), x, .o (A.map D.str), y] = some (.nx [.v (.int n), .v m, .v (.str abc), .v z, .v (.int p), .v (.str b), x', .o (A'.map D.str), y'])
  | [], A, x, y, h, hl, _, _ => ⟨A, x, y, h, by simp, rfl⟩
  | k :: ks, A, x, y, h, hl, hx, hy => by
    rw [List.length_cons] at hl
    have hsz : (A.map D.str).length < sizeLine := by rw [List.length_map]; exact Nat.lt_of_le_of_lt (show A.length ≤ 50 by omega) (by decide)
    have c := eq_int (f := mBin modD (mBin fdivD (mVar 0) (mC (.int 50))) (mC (.int 3))) (g := mC (.int 0)) (r := [.v (.int n), .v m, .v (.str abc), .v z, .v (.int p), .v (.str b), .v (.int ((0 : Int) + (k : Nat))), .o (A.map D.str), y]) (mod_of (fdiv_of (i := n) rfl con_of (by decide)) con_of (by decide)) con_of
    by_cases hc : n / 50 % 3 = 0
    · let w := cutL (b ++ tl8) none (some (1 + ((0 : Int) + (k : Nat))))
      have hw : lw w := lw_cut (lw_app hb (by unfold tl8 lw; decide)) _ _
      obtain ⟨A', x', y', a1, a2, a3⟩ := found_loop (n := n) (p := p) (m := m) (z := z) hb lb ks (A ++ [w]) (.v (.int ((0 : Int) + (k : Nat)))) y (fun u hu => (List.mem_append.mp hu).elim (h u) fun hu => by rw [List.mem_singleton.mp hu]; exact hw) (by simp; omega) trivial hy
      refine ⟨A', x', y', a1, by rw [a2]; simp; omega, ?_⟩
      have bd : bodyF [.v (.int n), .v m, .v (.str abc), .v z, .v (.int p), .v (.str b), .v (.int ((0 : Int) + (k : Nat))), .o (A.map D.str), y] = some (.nx [.v (.int n), .v m, .v (.str abc), .v z, .v (.int p), .v (.str b), .v (.int ((0 : Int) + (k : Nat))), .o ((A ++ [w]).map D.str), y]) := by
        unfold bodyF
        rw [sIf_t (by rw [c, decide_eq_true hc])]
        rw [List.map_append, List.map_cons, List.map_nil]
        have e1 : mBin addD (mVar 5) (mC (.str [98, 99, 100, 103, 104, 106, 107, 108])) [.v (.int n), .v m, .v (.str abc), .v z, .v (.int p), .v (.str b), .v (.int ((0 : Int) + (k : Nat))), .o (A.map D.str), y] = some (.str (b ++ tl8)) := bin_of (x := .str b) rfl con_of (str_add (by show b.length + 8 ≤ 100; omega))
        exact sX_of (app_of rfl (sl_of e1 rfl (osome_of (add_of con_of rfl)) (sl_str_of (by rw [List.length_append]; show b.length + 8 ≤ 100; omega) _ _)) hsz)
      rw [List.map_cons, for_go (setV_fre (x := x) rfl hx) bd, a3]
    · have q0 : 0 ≤ (n / 150 + 3 * ((0 : Int) + (k : Nat))) % 20 := Int.emod_nonneg _ (by decide)
      have q1 : (n / 150 + 3 * ((0 : Int) + (k : Nat))) % 20 < 20 := Int.emod_lt_of_pos _ (by decide)
      obtain ⟨s, s1, hs⟩ := abc_at q0 q1
      let w := cutL b none (some p) ++ [s] ++ cutL b (some (p + 1)) none
      have hw : lw w := lw_app (lw_app (lw_cut hb _ _) (lw_one s1)) (lw_cut hb _ _)
      obtain ⟨A', x', y', a1, a2, a3⟩ := found_loop (n := n) (p := p) (m := m) (z := z) hb lb ks (A ++ [w]) (.v (.int ((0 : Int) + (k : Nat)))) (.v (.str [s])) (fun u hu => (List.mem_append.mp hu).elim (h u) fun hu => by rw [List.mem_singleton.mp hu]; exact hw) (by simp; omega) trivial trivial
      refine ⟨A', x', y', a1, by rw [a2]; simp; omega, ?_⟩
      have c1 := cut_len b none (some p)
      have c2 := cut_len b (some (p + 1)) none
      have bd : bodyF [.v (.int n), .v m, .v (.str abc), .v z, .v (.int p), .v (.str b), .v (.int ((0 : Int) + (k : Nat))), .o (A.map D.str), y] = some (.nx [.v (.int n), .v m, .v (.str abc), .v z, .v (.int p), .v (.str b), .v (.int ((0 : Int) + (k : Nat))), .o ((A ++ [w]).map D.str), .v (.str [s])]) := by
        unfold bodyF
        rw [sIf_f (by rw [c, decide_eq_false hc])]
        rw [List.map_append, List.map_cons, List.map_nil]
        have hm : mBin mulD (mC (.int 3)) (mVar 6) [.v (.int n), .v m, .v (.str abc), .v z, .v (.int p), .v (.str b), .v (.int ((0 : Int) + (k : Nat))), .o (A.map D.str), y] = some (.int (3 * ((0 : Int) + (k : Nat)))) := mul_of con_of rfl (by decide)
        refine seq_set (.str [s]) (bin_of (x := .str abc) rfl (mod_of (add_of (fdiv_of (i := n) rfl con_of (by decide)) hm) con_of (by decide)) hs) (r2 := [.v (.int n), .v m, .v (.str abc), .v z, .v (.int p), .v (.str b), .v (.int ((0 : Int) + (k : Nat))), .o (A.map D.str), .v (.str [s])]) (setV_fre (x := y) rfl hy) ?_
        have e1 : mSl (mVar 5) oNone (oSome (mVar 4)) [.v (.int n), .v m, .v (.str abc), .v z, .v (.int p), .v (.str b), .v (.int ((0 : Int) + (k : Nat))), .o (A.map D.str), .v (.str [s])] = some (.str (cutL b none (some p))) := sl_of (x := .str b) rfl rfl (osome_of rfl) (sl_str_of (by omega) _ _)
        have e2 : mSl (mVar 5) (oSome (mBin addD (mVar 4) (mC (.int 1)))) oNone [.v (.int n), .v m, .v (.str abc), .v z, .v (.int p), .v (.str b), .v (.int ((0 : Int) + (k : Nat))), .o (A.map D.str), .v (.str [s])] = some (.str (cutL b (some (p + 1)) none)) := sl_of (x := .str b) rfl (osome_of (add_of rfl con_of)) rfl (sl_str_of (by omega) _ _)
        exact sX_of (app_of rfl (bin_of (bin_of (y := .str [s]) e1 rfl (str_add (by show _ + 1 ≤ 100; omega))) e2 (str_add (by rw [List.length_append]; show _ + 1 + _ ≤ 100; omega))) hsz)
      rw [List.map_cons, for_go (setV_fre (x := x) rfl hx) bd, a3]
theorem srtS_perm (l : List (List Nat)) : (srtS l).Perm l := by
  unfold srtS
  split
  · rename_i h; exact h.choose_spec.1
  · exact List.Perm.refl _
theorem labels_eq {n : Int} {m : Nat} (hm : m ≤ 5) : ∃ L : List (List Nat), (∀ w ∈ L, lw w) ∧ L.length = m ∧ ∃ as, F__law_labels [.v (.int n), .v (.int (m : Int))] = some (.v (.lst (L.map D.str)), as) := by
  have z0 : 0 ≤ n % 7 := Int.emod_nonneg _ (by decide)
  have z7 : n % 7 < 7 := Int.emod_lt_of_pos _ (by decide)
  obtain ⟨z, hz⟩ := Int.eq_ofNat_of_zero_le z0
  let p : Int := n / 7 % ((1 + z : Nat) : Int)
  obtain ⟨b, x', b1, b2, b3, b4⟩ := base_loop (n := n) (m := .int (m : Int)) (z := .int ((1 + z : Nat) : Int)) (p := .int p) (List.range (1 + z)) [] .un (fun j hj => by have := List.mem_range.mp hj; omega) (fun c hc => by simp at hc) (by simp; omega) trivial
  obtain ⟨A, x2, y2, a1, a2, a3⟩ := found_loop (n := n) (p := p) (m := .int (m : Int)) (z := .int ((1 + z : Nat) : Int)) b1 b2 (List.range m) [] x' .un (fun w hw => by simp at hw) (by simp; omega) b4 trivial
  have al : A.length = m := by rw [a2]; simp
  refine ⟨srtS A, fun w hw => a1 w ((srtS_perm A).mem_iff.mp hw), by rw [srtS_len, al], mk_rt (r' := [.v (.int n), .v (.int (m : Int)), .v (.str abc), .v (.int ((1 + z : Nat) : Int)), .v (.int p), .v (.str b), x2, .o (A.map D.str), y2]) ?_⟩
  show g__law_labels [.v (.int n), .v (.int (m : Int)), .un, .un, .un, .un, .un, .un, .un] = _
  unfold g__law_labels
  refine seq_set (.str abc) con_of (r2 := [.v (.int n), .v (.int (m : Int)), .v (.str abc), .un, .un, .un, .un, .un, .un]) (by rfl) ?_
  refine seq_set (.int ((1 + z : Nat) : Int)) ?_ (r2 := [.v (.int n), .v (.int (m : Int)), .v (.str abc), .v (.int ((1 + z : Nat) : Int)), .un, .un, .un, .un, .un]) (by rfl) ?_
  · rw [add_of con_of (mod_of (i := n) rfl con_of (by decide)), hz]; rfl
  refine seq_set (.int p) (mod_of (fdiv_of (i := n) rfl con_of (by decide)) rfl (by omega)) (r2 := [.v (.int n), .v (.int (m : Int)), .v (.str abc), .v (.int ((1 + z : Nat) : Int)), .v (.int p), .un, .un, .un, .un]) (by rfl) ?_
  refine seq_set (.str []) con_of (r2 := [.v (.int n), .v (.int (m : Int)), .v (.str abc), .v (.int ((1 + z : Nat) : Int)), .v (.int p), .v (.str []), .un, .un, .un]) (by rfl) ?_
  have f1 : sFor (setV 6) (mRng1 (mVar 3)) bodyB [.v (.int n), .v (.int (m : Int)), .v (.str abc), .v (.int ((1 + z : Nat) : Int)), .v (.int p), .v (.str []), .un, .un, .un] = some (.nx [.v (.int n), .v (.int (m : Int)), .v (.str abc), .v (.int ((1 + z : Nat) : Int)), .v (.int p), .v (.str b), x', .un, .un]) := by
    unfold sFor
    rw [rng_of (n := 1 + z) rfl (by omega)]
    exact b3
  unfold bodyB at f1
  rw [seq_of f1]
  rw [seq_of (r' := [.v (.int n), .v (.int (m : Int)), .v (.str abc), .v (.int ((1 + z : Nat) : Int)), .v (.int p), .v (.str b), x', .o [], .un]) (by rfl)]
  have f2 : sFor (setV 6) (mRng1 (mVar 1)) bodyF [.v (.int n), .v (.int (m : Int)), .v (.str abc), .v (.int ((1 + z : Nat) : Int)), .v (.int p), .v (.str b), x', .o [], .un] = some (.nx [.v (.int n), .v (.int (m : Int)), .v (.str abc), .v (.int ((1 + z : Nat) : Int)), .v (.int p), .v (.str b), x2, .o (A.map D.str), y2]) := by
    unfold sFor
    rw [rng_of (n := m) rfl (by omega)]
    exact a3
  unfold bodyF at f2
  rw [seq_of f2]
  refine ret_of ?_
  unfold mOfF mSrtS
  rw [show mOwn 7 [.v (.int n), .v (.int (m : Int)), .v (.str abc), .v (.int ((1 + z : Nat) : Int)), .v (.int p), .v (.str b), x2, .o (A.map D.str), y2] = some (A.map D.str) from rfl, Option.bind_some, strsD_map, Option.bind_some, if_pos (by omega)]
  rfl
theorem tail_eq {n : Int} : ∃ t : D, (t = .non ∨ ∃ i, t = .int i) ∧ ∃ as, F__law_tail [.v (.int n)] = some (.v t, as) := by
  by_cases h : n % 3 = 0
  · refine ⟨.int (n / 3 % 50), .inr ⟨_, rfl⟩, mk_rt (r' := [.v (.int n)]) ?_⟩
    show g__law_tail [.v (.int n)] = _
    unfold g__law_tail
    exact seq_tt (by rw [eq_int (mod_of (i := n) rfl con_of (by decide)) con_of, decide_eq_true h]) (ret_of (mod_of (fdiv_of (i := n) rfl con_of (by decide)) con_of (by decide)))
  · refine ⟨.non, .inl rfl, mk_rt (r' := [.v (.int n)]) ?_⟩
    show g__law_tail [.v (.int n)] = _
    unfold g__law_tail
    exact seq_ff (by rw [eq_int (mod_of (i := n) rfl con_of (by decide)) con_of, decide_eq_false h]) (ret_of con_of)
def sRec : D := .str [114, 101, 99]
def sOne : D := .str [111, 110, 101]
def sRow : D := .str [114, 111, 119]
def sNum : D := .str [110, 117, 109]
def sFun : D := .str [102, 117, 110]
def sFn : D := .str [102, 110]
mutual
inductive Good : D → D → D → Nat → Prop
  | num (i : Int) : Good (.tup [sNum]) (.int i) (.int i) 1
  | fn (a b : D) (ha : ∀ l, apD l a = true) (hb : ∀ l, apD l b = true) : Good (.tup [sFun, a, b]) (.tup [sFn]) (.tup [sFn]) 3
  | rc (fs vs rs : List D) (t : D) (s : Nat) (ht : ∀ l, apD l t = true) (h : GoodL fs vs rs s) : Good (.tup [sRec, .tup [sRow, .tup fs, t]]) (.tup [sRec, .tup vs]) (.tup [sRec, .tup rs]) (2 + fs.length + s)
  | one (fs : List D) (t : D) (p : Nat) (lb : List Nat) (k v r : D) (s : Nat) (hf : ∀ l, apL l fs = true) (ht : ∀ l, apD l t = true) (hl : lw lb) (hp : fs[p]? = some (.tup [.str lb, k])) (h5 : fs.length ≤ 5) (h : Good k v r s) : Good (.tup [sOne, .tup [sRow, .tup fs, t]]) (.tup [sOne, .int (p : Nat), v]) (.tup [sOne, .str lb, r]) (s + 2 + 4 * fs.length)
inductive GoodL : List D → List D → List D → Nat → Prop
  | nil : GoodL [] [] [] 0
  | cons (lb : List Nat) (k v r : D) (s : Nat) (fs vs rs : List D) (u : Nat) (hl : lw lb) (h : Good k v r s) (t : GoodL fs vs rs u) : GoodL (.tup [.str lb, k] :: fs) (v :: vs) (.tup [.str lb, r] :: rs) (s + u)
end
theorem GoodL.len {fs vs rs : List D} {u : Nat} (h : GoodL fs vs rs u) : fs.length = vs.length ∧ rs.length = vs.length := by
  cases h with
  | nil => exact ⟨rfl, rfl⟩
  | cons lb k v r s fs vs rs u hl h t =>
    have := t.len
    exact ⟨by rw [List.length_cons, List.length_cons, this.1], by rw [List.length_cons, List.length_cons, this.2]⟩
termination_by vs.length
decreasing_by simp_all
mutual
theorem Good.ap {k v r : D} {s : Nat} (l : List D) : Good k v r s → apD l k = true ∧ apD l v = true ∧ apD l r = true
  | .num i => ⟨rfl, rfl, rfl⟩
  | .fn a b ha hb => ⟨by unfold apD; simp [apL, apD, sFun, ha l, hb l], rfl, rfl⟩
  | .rc fs vs rs t s ht h => by
    have := GoodL.ap l h
    refine ⟨?_, ?_, ?_⟩ <;> simp [apL, apD, sRec, sRow, ht l, this]
  | .one fs t p lb k v r s hf ht hl hp h5 h => by
    have := Good.ap l h
    refine ⟨?_, ?_, ?_⟩ <;> simp [apL, apD, sOne, sRow, ht l, hf l, this]
theorem GoodL.ap {fs vs rs : List D} {s : Nat} (l : List D) : GoodL fs vs rs s → apL l fs = true ∧ apL l vs = true ∧ apL l rs = true
  | .nil => ⟨rfl, rfl, rfl⟩
  | .cons lb k v r s fs vs rs u hl h t => by
    have h1 := Good.ap l h
    have h2 := GoodL.ap l t
    refine ⟨?_, ?_, ?_⟩ <;> simp [apL, apD, h1, h2]
end
def Alk (n : Nat) (d : D) : Prop := ∃ as, F__law_alike n [.v d, .v d] = some (.v (.bl true), as)
theorem strOk_lw {s : List Nat} (h : lw s) : PyData.strOk ⟨s.toArray⟩ = true := by
  unfold PyData.strOk
  rw [Array.all_eq_true_iff_forall_mem]
  intro c hc
  have := h c (by simpa using hc)
  simp only [decide_eq_true_eq]
  omega
theorem lay_str {s : List Nat} (h : lw s) : layD (.str s) = true := by
  have := strOk_lw h
  simp [layD, okD, toP, PyData.canLay0, PyData.depth, this]
theorem lay_int (i : Int) : layD (.int i) = true := rfl
theorem tru_of {f : ME} {r : En} {b : Bool} (e : f r = some (.bl b)) : mTru f r = some b := by
  unfold mTru; rw [e]; rfl
theorem alk_int {n : Nat} (i : Int) : Alk (n + 1) (.int i) := by
  refine mk_rt (r' := [.v (.int i), .v (.int i)]) ?_
  show g__law_alike (F__law_alike n) [.v (.int i), .v (.int i)] = _
  unfold g__law_alike
  refine seq_ff (tru_of (un_of (x := .int i) rfl rfl)) ?_
  refine seq_ff (tru_of (un_of (x := .int i) rfl rfl)) ?_
  refine ret_of ?_
  have w : mCall 1 F__law_whole (mCons (mVar 0) mNil) [.v (.int i), .v (.int i)] = some (.bl true) := call_of (p := .v (.bl true)) (cons_of (x := .int i) rfl nil_of) rfl ⟨_, rfl⟩
  unfold mAnd
  rw [w, Option.bind_some]
  exact bin_of (x := .int i) (y := .int i) rfl rfl (eqT_refl (lay_int i))
theorem alk_str {n : Nat} {s : List Nat} (h : lw s) : Alk (n + 1) (.str s) := by
  refine mk_rt (r' := [.v (.str s), .v (.str s)]) ?_
  show g__law_alike (F__law_alike n) [.v (.str s), .v (.str s)] = _
  unfold g__law_alike
  refine seq_ff (tru_of (un_of (x := .str s) rfl rfl)) ?_
  refine seq_tt (tru_of (un_of (x := .str s) rfl rfl)) ?_
  refine ret_of ?_
  have w : mUn (instD "str") (mVar 0) [.v (.str s), .v (.str s)] = some (.bl true) := un_of (x := .str s) rfl rfl
  unfold mAnd
  rw [w, Option.bind_some]
  exact bin_of (x := .str s) (y := .str s) rfl rfl (eqT_refl (lay_str h))
theorem compL_go {bd : D → En → Option En} {x : ME} (P : En → Prop) : ∀ (l out : List D), l.length = out.length → (∀ (j : Nat) (d y : D), l[j]? = some d → out[j]? = some y → ∀ r, P r → ∃ r1, bd d r = some r1 ∧ x r1 = some y ∧ P r1) → ∀ r, P r → compL bd mTrue x l r = some out
  | [], [], _, _, r, _ => rfl
  | d :: l, y :: out, hl, h, r, hr => by
    obtain ⟨r1, e1, e2, h1⟩ := h 0 d y rfl rfl r hr
    have ih := compL_go P l out (by simpa using hl) (fun j d y a b => h (j + 1) d y (by simpa using a) (by simpa using b)) r1 h1
    show (bd d r).bind _ = _
    rw [e1, Option.bind_some]
    show (x r1).bind _ = _
    rw [e2, Option.bind_some, ih]; rfl
  | [], y :: out, hl, _, _, _ => by simp at hl
  | d :: l, [], hl, _, _, _ => by simp at hl
theorem comp_of {cap : List Nat} {n : Nat} {it : ML} {bd : D → En → Option En} {x : ME} {r : En} (P : En → Prop) {l out : List D} (e : it r = some l) (hz : l.length < 1000) (hl : l.length = out.length) (h : ∀ (j : Nat) (d y : D), l[j]? = some d → out[j]? = some y → ∀ r, P r → ∃ r1, bd d r = some r1 ∧ x r1 = some y ∧ P r1) (hr : P (capR cap n r)) : mComp cap n it bd x r = some out := by
  unfold mComp mCompIf
  rw [e, Option.bind_some, if_pos (Nat.lt_of_lt_of_le hz (by decide))]
  exact compL_go P l out hl h _ hr
theorem blsD_true : ∀ n : Nat, blsD (List.replicate n (.bl true)) = some (List.replicate n true)
  | 0 => rfl
  | n + 1 => by rw [List.replicate_succ, blsD, blsD_true n]; rfl
theorem alk_tup {n : Nat} {l : List D} (hl : l.length < 1000) (h : ∀ d ∈ l, Alk n d) : Alk (n + 1) (.tup l) := by
  refine mk_rt (r' := [.v (.tup l), .v (.tup l)]) ?_
  show g__law_alike (F__law_alike n) [.v (.tup l), .v (.tup l)] = _
  unfold g__law_alike
  refine seq_tt (tru_of (un_of (x := .tup l) rfl rfl)) ?_
  have e1 : mTru (mUn (instD "tuple") (mVar 0)) [.v (.tup l), .v (.tup l)] = some true := tru_of (un_of (x := .tup l) rfl rfl)
  have e2 : mBl (mBin neA (mUn lenD (mVar 0)) (mUn lenD (mVar 1))) [.v (.tup l), .v (.tup l)] = some false := by
    refine bl_of (bin_of (x := .int (l.length : Int)) (y := .int (l.length : Int)) (un_of (x := .tup l) rfl rfl) (un_of (x := .tup l) rfl rfl) ?_)
    show neD (.int (l.length : Int)) (.int (l.length : Int)) = _
    unfold neD
    simp [eqS]
  refine seq_ff ?_ ?_
  · unfold mOrT mNotT
    rw [e1, e2]; rfl
  refine ret_of ?_
  unfold mAll
  rw [comp_of (P := fun r => ∃ z, r = [.v (.tup l), .v (.tup l), z] ∧ fre z) (out := List.replicate l.length (.bl true)) (rng_of (n := l.length) (un_of (x := .tup l) rfl rfl) hl) (by simpa using hl) (by simp) ?_ ⟨.un, rfl, trivial⟩, Option.bind_some, blsD_true]
  · simp
  · rintro j d y hj hy r ⟨z, rfl, hz⟩
    have hjl : j < l.length := by
      have := (List.getElem?_eq_some_iff.mp hj).1
      simpa using this
    have hy' : y = .bl true := by
      rw [List.getElem?_replicate] at hy
      rw [if_pos hjl] at hy
      exact (Option.some.inj hy).symm
    subst hy'
    have hd : d = .int ((0 : Int) + (j : Nat)) := by
      rw [List.getElem?_map, List.getElem?_range hjl] at hj
      exact (Option.some.inj hj).symm
    subst hd
    refine ⟨[.v (.tup l), .v (.tup l), .v (.int ((0 : Int) + (j : Nat)))], setV_fre (x := z) rfl hz, ?_, _, rfl, trivial⟩
    have at1 : ∀ i : Nat, mVar i [.v (.tup l), .v (.tup l), .v (.int ((0 : Int) + (j : Nat)))] = some (.tup l) → mBin ixD (mVar i) (mVar 2) [.v (.tup l), .v (.tup l), .v (.int ((0 : Int) + (j : Nat)))] = some l[j] := fun i ei => by
      refine bin_of ei (y := .int ((0 : Int) + (j : Nat))) rfl ?_
      show atI l ((0 : Int) + (j : Nat)) = _
      rw [Int.zero_add]
      exact atI_nat (List.getElem?_eq_getElem hjl)
    obtain ⟨as, ha⟩ := h l[j] (List.getElem_mem hjl)
    exact call_of (p := .v (.bl true)) (cons_of (at1 0 rfl) (cons_of (at1 1 rfl) nil_of)) rfl ⟨as, ha⟩
theorem lw_rec : lw [114, 101, 99] := by unfold lw; decide
theorem lw_oneS : lw [111, 110, 101] := by unfold lw; decide
theorem lw_fn : lw [102, 110] := by unfold lw; decide
theorem Good.pos {k v r : D} {s : Nat} (h : Good k v r s) : 1 ≤ s := by
  cases h <;> omega
mutual
theorem Good.alk {k v r : D} {s : Nat} : Good k v r s → s ≤ 100 → ∀ n, s ≤ n → Alk n r
  | .num i, _, n, hn => by
    obtain ⟨m, rfl⟩ : ∃ m, n = m + 1 := ⟨n - 1, by omega⟩
    exact alk_int i
  | .fn a b _ _, _, n, hn => by
    obtain ⟨m, rfl⟩ : ∃ m, n = m + 1 + 1 := ⟨n - 2, by omega⟩
    exact alk_tup (by decide) fun d hd => by
      rw [List.mem_singleton.mp hd]; exact alk_str lw_fn
  | .rc fs vs rs t s ht h, hs, n, hn => by
    have hl := h.len
    obtain ⟨m, rfl⟩ : ∃ m, n = m + 1 + 1 := ⟨n - 2, by omega⟩
    refine alk_tup (by simp) fun d hd => ?_
    rcases List.mem_cons.mp hd with rfl | hd
    · exact alk_str lw_rec
    rw [List.mem_singleton.mp hd]
    refine alk_tup (by omega) fun d hd => ?_
    have : 0 < rs.length := List.length_pos_of_mem hd
    exact GoodL.alk h (by omega) m (by omega) d hd
  | .one fs t p lb k v r s _ _ hl hp h5 h, hs, n, hn => by
    obtain ⟨m, rfl⟩ : ∃ m, n = m + 1 := ⟨n - 1, by omega⟩
    have ps := h.pos
    refine alk_tup (by simp) fun d hd => ?_
    obtain ⟨m', rfl⟩ : ∃ m', m = m' + 1 := ⟨m - 1, by omega⟩
    rcases List.mem_cons.mp hd with rfl | hd
    · exact alk_str lw_oneS
    rcases List.mem_cons.mp hd with rfl | hd
    · exact alk_str hl
    rw [List.mem_singleton.mp hd]
    exact Good.alk h (by omega) _ (by omega)
theorem GoodL.alk {fs vs rs : List D} {s : Nat} : GoodL fs vs rs s → s ≤ 100 → ∀ n, s + 1 ≤ n → ∀ d ∈ rs, Alk n d
  | .nil, _, n, hn, d, hd => by simp at hd
  | .cons lb k v r s fs vs rs u hl h t, hs, n, hn, d, hd => by
    rcases List.mem_cons.mp hd with rfl | hd
    · obtain ⟨m, rfl⟩ : ∃ m, n = m + 1 := ⟨n - 1, by omega⟩
      refine alk_tup (by simp) fun d hd => ?_
      have ps := h.pos
      rcases List.mem_cons.mp hd with rfl | hd
      · obtain ⟨m', rfl⟩ : ∃ m', m = m' + 1 := ⟨m - 1, by omega⟩
        exact alk_str hl
      rw [List.mem_singleton.mp hd]
      exact Good.alk h (by omega) _ (by omega)
    · exact GoodL.alk t (by omega) n (by omega) d hd
end
section
variable {f : ME} {r : En} {a b c e : D} {l : List D}
theorem ix0 (h : f r = some (.tup (a :: l))) : mBin ixD f (mC (.int 0)) r = some a := bin_of h con_of (atI_nat (j := 0) rfl)
theorem ix1 (h : f r = some (.tup (a :: b :: l))) : mBin ixD f (mC (.int 1)) r = some b := bin_of h con_of (atI_nat (j := 1) rfl)
theorem ix2 (h : f r = some (.tup (a :: b :: c :: l))) : mBin ixD f (mC (.int 2)) r = some c := bin_of h con_of (atI_nat (j := 2) rfl)
theorem iy0 (h : f r = some (.lst (a :: l))) : mBin ixD f (mC (.int 0)) r = some a := bin_of h con_of (atI_nat (j := 0) rfl)
theorem iy1 (h : f r = some (.lst (a :: b :: l))) : mBin ixD f (mC (.int 1)) r = some b := bin_of h con_of (atI_nat (j := 1) rfl)
theorem iy2 (h : f r = some (.lst (a :: b :: c :: l))) : mBin ixD f (mC (.int 2)) r = some c := bin_of h con_of (atI_nat (j := 2) rfl)
theorem iy3 (h : f r = some (.lst (a :: b :: c :: e :: l))) : mBin ixD f (mC (.int 3)) r = some e := bin_of h con_of (atI_nat (j := 3) rfl)
end
theorem eq_str {f : ME} {r : En} {s t : List Nat} (e1 : f r = some (.str s)) : mBl (mBin eqA f (mC (.str t))) r = some (decide (s = t)) := bl_of (bin_of e1 con_of rfl)
def snd : D → D
  | .tup [_, b] => b
  | _ => .non
def Node (k v r : D) (ts rs : List D) : Prop := (∃ as, F_read_in [.v k, .v v] = some (.v (.lst ts), as)) ∧ (∃ as, F_read_part [.v k, .v v, .v (.lst rs)] = some (.v r, as)) ∧ ts.length = rs.length
theorem node_num (i : Int) : Node (.tup [sNum]) (.int i) (.int i) [] [] := by
  refine ⟨mk_rt (r' := [.v (.tup [sNum]), .v (.int i)]) ?_, mk_rt (r' := [.v (.tup [sNum]), .v (.int i), .v (.lst [])]) ?_, rfl⟩
  · show g_read_in [.v (.tup [sNum]), .v (.int i)] = _
    unfold g_read_in
    exact seq_ff (eq_str (ix0 (a := sNum) rfl)) (seq_ff (eq_str (ix0 (a := sNum) rfl)) (ret_of (lstF_of nil_of (by simp))))
  · show g_read_part [.v (.tup [sNum]), .v (.int i), .v (.lst [])] = _
    unfold g_read_part
    exact seq_ff (eq_str (ix0 (a := sNum) rfl)) (seq_ff (eq_str (ix0 (a := sNum) rfl)) (ret_of rfl))
theorem node_fn (a b : D) : Node (.tup [sFun, a, b]) (.tup [sFn]) (.tup [sFn]) [] [] := by
  refine ⟨mk_rt (r' := [.v (.tup [sFun, a, b]), .v (.tup [sFn])]) ?_, mk_rt (r' := [.v (.tup [sFun, a, b]), .v (.tup [sFn]), .v (.lst [])]) ?_, rfl⟩
  · show g_read_in [.v (.tup [sFun, a, b]), .v (.tup [sFn])] = _
    unfold g_read_in
    exact seq_ff (eq_str (ix0 (a := sFun) rfl)) (seq_ff (eq_str (ix0 (a := sFun) rfl)) (ret_of (lstF_of nil_of (by simp))))
  · show g_read_part [.v (.tup [sFun, a, b]), .v (.tup [sFn]), .v (.lst [])] = _
    unfold g_read_part
    exact seq_ff (eq_str (ix0 (a := sFun) rfl)) (seq_ff (eq_str (ix0 (a := sFun) rfl)) (ret_of rfl))
theorem node_one {fs : List D} {t k v r : D} {p : Nat} {lb : List Nat} (hp : fs[p]? = some (.tup [.str lb, k])) : Node (.tup [sOne, .tup [sRow, .tup fs, t]]) (.tup [sOne, .int (p : Nat), v]) (.tup [sOne, .str lb, r]) [.tup [k, v]] [r] := by
  let K : D := .tup [sOne, .tup [sRow, .tup fs, t]]
  let V : D := .tup [sOne, .int (p : Nat), v]
  refine ⟨mk_rt (r' := [.v K, .v V]) ?_, mk_rt (r' := [.v K, .v V, .v (.lst [r])]) ?_, rfl⟩
  · show g_read_in [.v K, .v V] = _
    unfold g_read_in
    refine seq_ff (eq_str (ix0 (a := sOne) rfl)) (seq_tt (eq_str (ix0 (a := sOne) rfl)) (ret_of (lstF_of (cons_of (tup_of (cons_of (x := k) ?_ (cons_of (x := v) ?_ nil_of)) (by simp)) nil_of) (by simp))))
    · have e1 : mBin ixD (mBin ixD (mVar 0) (mC (.int 1))) (mC (.int 1)) [.v K, .v V] = some (.tup fs) := ix1 (a := sRow) (ix1 (a := sOne) rfl)
      have e2 : mBin ixD (mVar 1) (mC (.int 1)) [.v K, .v V] = some (.int (p : Nat)) := ix1 (a := sOne) rfl
      exact ix1 (a := .str lb) (bin_of e1 e2 (atI_nat hp))
    · exact ix2 (a := sOne) (b := .int (p : Nat)) rfl
  · show g_read_part [.v K, .v V, .v (.lst [r])] = _
    unfold g_read_part
    refine seq_ff (eq_str (ix0 (a := sOne) rfl)) (seq_tt (eq_str (ix0 (a := sOne) rfl)) (ret_of (tup_of (cons_of (x := sOne) con_of (cons_of (x := .str lb) ?_ (cons_of (x := r) ?_ nil_of))) (by simp))))
    · have e1 : mBin ixD (mBin ixD (mVar 0) (mC (.int 1))) (mC (.int 1)) [.v K, .v V, .v (.lst [r])] = some (.tup fs) := ix1 (a := sRow) (ix1 (a := sOne) rfl)
      have e2 : mBin ixD (mVar 1) (mC (.int 1)) [.v K, .v V, .v (.lst [r])] = some (.int (p : Nat)) := ix1 (a := sOne) rfl
      exact ix0 (a := .str lb) (bin_of e1 e2 (atI_nat hp))
    · exact iy0 rfl
theorem zipA_t {f g : ME} {r : En} {l m : List D} (e1 : f r = some (.tup l)) (e2 : g r = some (.tup m)) : mZipA f g r = some (zipD l m) := by
  unfold mZipA; rw [e1, Option.bind_some, e2]; rfl
theorem zipA_m {f g : ME} {r : En} {l m : List D} (e1 : f r = some (.tup l)) (e2 : g r = some (.lst m)) : mZipA f g r = some (zipD l m) := by
  unfold mZipA; rw [e1, Option.bind_some, e2]; rfl
theorem GoodL.flds {fs vs rs : List D} {u : Nat} : GoodL fs vs rs u → ∀ (j : Nat) (x y : D), fs[j]? = some x → rs[j]? = some y → ∃ (lb : List Nat) (k r : D), x = .tup [.str lb, k] ∧ y = .tup [.str lb, r]
  | .nil, j, x, y, h, _ => by simp at h
  | .cons lb k v r s fs vs rs u hl h t, 0, x, y, e1, e2 => by
    cases e1; cases e2
    exact ⟨lb, k, r, rfl, rfl⟩
  | .cons lb k v r s fs vs rs u hl h t, j + 1, x, y, e1, e2 => GoodL.flds t j x y (by simpa using e1) (by simpa using e2)
def kids (fs vs : List D) : List D := List.zipWith (fun f v => .tup [snd f, v]) fs vs
theorem node_rc {fs vs rs : List D} {t : D} {u : Nat} (h : GoodL fs vs rs u) (hn : fs.length < 100) : Node (.tup [sRec, .tup [sRow, .tup fs, t]]) (.tup [sRec, .tup vs]) (.tup [sRec, .tup rs]) (kids fs vs) (rs.map snd) := by
  let K : D := .tup [sRec, .tup [sRow, .tup fs, t]]
  let V : D := .tup [sRec, .tup vs]
  obtain ⟨l1, l2⟩ := h.len
  refine ⟨mk_rt (r' := [.v K, .v V]) ?_, mk_rt (r' := [.v K, .v V, .v (.lst (rs.map snd))]) ?_, by simp [kids]; omega⟩
  · show g_read_in [.v K, .v V] = _
    unfold g_read_in
    refine seq_tt (eq_str (ix0 (a := sRec) rfl)) (ret_of ?_)
    have e1 : mBin ixD (mBin ixD (mVar 0) (mC (.int 1))) (mC (.int 1)) [.v K, .v V] = some (.tup fs) := ix1 (a := sRow) (ix1 (a := sRec) rfl)
    have e2 : mBin ixD (mVar 1) (mC (.int 1)) [.v K, .v V] = some (.tup vs) := ix1 (a := sRec) rfl
    have zl : (zipD fs vs).length = fs.length := by simp [zipD]; omega
    unfold mOfF
    rw [comp_of (P := fun r => ∃ a b, r = [a, b] ∧ fre a ∧ fre b) (out := kids fs vs) (zipA_t e1 e2) (by omega) (by simp [zipD, kids]) ?_ ⟨.un, .un, rfl, trivial, trivial⟩]; rfl
    rintro j d y hd hy r ⟨a, b, rfl, ha, hb⟩
    obtain ⟨x, w, ex, ew, rfl⟩ := DD.zip_get hd
    have hy' : y = .tup [snd x, w] := by
      unfold kids at hy
      rw [List.getElem?_zipWith, ex, ew] at hy
      exact (Option.some.inj hy).symm
    subst hy'
    have hj : j < rs.length := by have := (List.getElem?_eq_some_iff.mp ex).1; omega
    obtain ⟨lb, k, _, rfl, _⟩ := h.flds j x rs[j] ex (List.getElem?_eq_getElem hj)
    refine ⟨[.v (.tup [.str lb, k]), .v w], bdP (r1 := [.v (.tup [.str lb, k]), b]) (setV_fre (x := a) rfl ha) (setV_fre (x := b) rfl hb), ?_, _, _, rfl, trivial, trivial⟩
    exact tup_of (cons_of (ix1 (a := .str lb) rfl) (cons_of (x := w) rfl nil_of)) (by simp)
  · show g_read_part [.v K, .v V, .v (.lst (rs.map snd))] = _
    unfold g_read_part
    refine seq_tt (eq_str (ix0 (a := sRec) rfl)) (ret_of ?_)
    have e1 : mBin ixD (mBin ixD (mVar 0) (mC (.int 1))) (mC (.int 1)) [.v K, .v V, .v (.lst (rs.map snd))] = some (.tup fs) := ix1 (a := sRow) (ix1 (a := sRec) rfl)
    have zl : (zipD fs (rs.map snd)).length = fs.length := by simp [zipD]; omega
    refine tup_of (cons_of (x := sRec) con_of (cons_of (x := .tup rs) ?_ nil_of)) (by simp)
    unfold mTupOf
    rw [comp_of (P := fun r => ∃ a b, r = [a, b] ∧ fre a ∧ fre b) (out := rs) (zipA_m e1 (m := rs.map snd) rfl) (by omega) (by omega) ?_ ⟨.un, .un, rfl, trivial, trivial⟩]; rfl
    rintro j d y hd hy r ⟨a, b, rfl, ha, hb⟩
    obtain ⟨x, w, ex, ew, rfl⟩ := DD.zip_get hd
    obtain ⟨lb, k, q, rfl, rfl⟩ := h.flds j x y ex hy
    have hw : w = q := by
      rw [List.getElem?_map, hy] at ew
      exact (Option.some.inj ew).symm
    subst hw
    refine ⟨[.v (.tup [.str lb, k]), .v w], bdP (r1 := [.v (.tup [.str lb, k]), b]) (setV_fre (x := a) rfl ha) (setV_fre (x := b) rfl hb), ?_, _, _, rfl, trivial, trivial⟩
    exact tup_of (cons_of (ix0 (a := .str lb) rfl) (cons_of (x := w) rfl nil_of)) (by simp)
theorem at_last {α : Type} (l : List α) (x : α) : atI (l ++ [x]) (-1) = some x := by
  unfold atI ixN
  rw [if_neg (by decide), if_pos (by simp; omega), Option.bind_some]
  have : (-1 + ((l ++ [x]).length : Int)).toNat = l.length := by rw [List.length_append, List.length_singleton]; omega
  rw [this]; simp
noncomputable def bodyD : MS := (sSeq (sX (mAppX 2 (mPop 3)))
 (sX (mExt 3 (mUn revD (mCall 2 F_read_in (mCons (mBin ixD (mIxB (mOwn 2) (mUn negD (mC (.int 1)))) (mC (.int 0))) (mCons (mBin ixD (mIxB (mOwn 2) (mUn negD (mC (.int 1)))) (mC (.int 1))) mNil)))))))
def st (K W : D) (F Q : List D) : En := [.v K, .v W, .o F, .o Q, .un, .un, .un]
theorem line {n : Nat} (h : n ≤ 1000) : n < sizeLine := Nat.lt_of_le_of_lt h (by decide)
theorem down_step {K W k v r : D} {ts rs F Q : List D} (h : Node k v r ts rs) (hF : F.length ≤ 1000) (hQ : Q.length + ts.length ≤ 1000) : bodyD (st K W F (Q ++ [.tup [k, v]])) = some (.nx (st K W (F ++ [.tup [k, v]]) (Q ++ ts.reverse))) := by
  obtain ⟨⟨as, e1⟩, _, _⟩ := h
  unfold bodyD
  have p1 : mPop 3 (st K W F (Q ++ [.tup [k, v]])) = some (.tup [k, v], st K W F Q) := pop_of rfl
  have a1 : mAppX 2 (mPop 3) (st K W F (Q ++ [.tup [k, v]])) = some (.non, st K W (F ++ [.tup [k, v]]) Q) := by
    unfold mAppX
    rw [p1, Option.bind_some]
    show (some F).bind (fun _ => (some F).bind fun l => if l.length < sizeLine then (putO 2 (l ++ [D.tup [k, v]]) (st K W F Q)).map fun r' => (D.non, r') else none) = _
    rw [Option.bind_some, Option.bind_some, if_pos (line hF)]; rfl
  rw [seq_of (sX_of a1)]
  have la : mIxB (mOwn 2) (mUn negD (mC (.int 1))) (st K W (F ++ [.tup [k, v]]) Q) = some (.tup [k, v]) := by
    show atI (F ++ [D.tup [k, v]]) (-1) = _
    exact at_last _ _
  have c1 : mCall 2 F_read_in (mCons (mBin ixD (mIxB (mOwn 2) (mUn negD (mC (.int 1)))) (mC (.int 0))) (mCons (mBin ixD (mIxB (mOwn 2) (mUn negD (mC (.int 1)))) (mC (.int 1))) mNil)) (st K W (F ++ [.tup [k, v]]) Q) = some (.lst ts) := call_of (p := .v (.lst ts)) (cons_of (ix0 la) (cons_of (ix1 la) nil_of)) rfl ⟨as, e1⟩
  refine sX_of (d := .non) ?_
  unfold mExt
  rw [un_of (d := .lst ts.reverse) c1 rfl, Option.bind_some]
  show (some ts.reverse).bind (fun m => (some Q).bind fun l => if l.length + m.length ≤ sizeLine then (putO 3 (l ++ m) (st K W (F ++ [D.tup [k, v]]) Q)).map fun r' => (D.non, r') else none) = _
  rw [Option.bind_some, Option.bind_some, if_pos (by rw [List.length_reverse]; exact Nat.le_of_lt (line hQ))]; rfl
def bdU : D → En → Option En := bdSeq 2 (bdCons (setV 5) (bdCons (setV 6) bdNil))
noncomputable def bodyU : MS := (sX (mAppX 4 (mCallXA 3 F_read_part (xaCons (mVar 5) (xaCons (mVar 6) (xaLast (mCompX 4 2 (mIt (mCall 2 F_read_in (mCons (mVar 5) (mCons (mVar 6) mNil)))) (setV 1) (mPop 0))))))))
def su (K W : D) (F S : List D) (x y : Sl) : En := [.v K, .v W, .z F, .o [], .o S, x, y]
theorem pops : ∀ (ts rs S : List D) (x : Sl), ts.length = rs.length → fre x → ∃ x', compXL (setV 1) (mPop 0) ts [.p (S ++ rs.reverse), x] = some (rs, [.p S, x'])
  | [], [], S, x, _, _ => ⟨x, by simp [compXL]⟩
  | [], r :: rs, S, x, h, _ => by simp at h
  | t :: ts, [], S, x, h, _ => by simp at h
  | t :: ts, r :: rs, S, x, h, hx => by
    obtain ⟨x', e⟩ := pops ts rs S (.v t) (by simpa using h) trivial
    refine ⟨x', ?_⟩
    show (setV 1 t [.p (S ++ (r :: rs).reverse), x]).bind _ = _
    rw [setV_fre (x := x) rfl hx, Option.bind_some]
    have p : mPop 0 ([.p (S ++ (r :: rs).reverse), x].set 1 (.v t)) = some (r, [.p (S ++ rs.reverse), .v t]) := by
      rw [List.reverse_cons, ← List.append_assoc]
      simp [mPop, mtOf, Sl.mt, putO]
    rw [p, Option.bind_some, e]; rfl
theorem up_step {K W k v r : D} {ts rs F S : List D} (h : Node k v r ts rs) (hl : rs.length ≤ 1000) (hS : S.length ≤ 1000) : bodyU (su K W F (S ++ rs.reverse) (.v k) (.v v)) = some (.nx (su K W F (S ++ [r]) (.v k) (.v v))) := by
  obtain ⟨⟨as, e1⟩, ⟨bs, e2⟩, e3⟩ := h
  unfold bodyU
  have c1 : mCall 2 F_read_in (mCons (mVar 5) (mCons (mVar 6) mNil)) (su K W F (S ++ rs.reverse) (.v k) (.v v)) = some (.lst ts) := call_of (p := .v (.lst ts)) (cons_of (x := k) rfl (cons_of (x := v) rfl nil_of)) rfl ⟨as, e1⟩
  obtain ⟨x', ep⟩ := pops ts rs S .un e3 trivial
  have c2 : mCompX 4 2 (mIt (mCall 2 F_read_in (mCons (mVar 5) (mCons (mVar 6) mNil)))) (setV 1) (mPop 0) (su K W F (S ++ rs.reverse) (.v k) (.v v)) = some (.lst rs, su K W F S (.v k) (.v v)) := by
    unfold mCompX mIt
    rw [c1, Option.bind_some]
    show (some ts).bind _ = _
    rw [Option.bind_some]
    show (some (S ++ rs.reverse)).bind _ = _
    rw [Option.bind_some, if_pos (line (by omega))]
    show (compXL (setV 1) (mPop 0) ts [.p (S ++ rs.reverse), .un]).bind _ = _
    rw [ep]; rfl
  have c3 : mCallXA 3 F_read_part (xaCons (mVar 5) (xaCons (mVar 6) (xaLast (mCompX 4 2 (mIt (mCall 2 F_read_in (mCons (mVar 5) (mCons (mVar 6) mNil)))) (setV 1) (mPop 0))))) (su K W F (S ++ rs.reverse) (.v k) (.v v)) = some (r, su K W F S (.v k) (.v v)) := by
    unfold mCallXA xaCons xaLast
    rw [c2]
    show (if [k, v, D.lst rs].length = 3 then (F_read_part [.v k, .v v, .v (.lst rs)]).map fun p => (rsD p.1, su K W F S (.v k) (.v v)) else none) = _
    rw [if_pos (show [k, v, D.lst rs].length = 3 from rfl), e2]; rfl
  refine sX_of (d := .non) ?_
  unfold mAppX
  rw [c3, Option.bind_some]
  show (some (S ++ rs.reverse)).bind (fun _ => (some S).bind fun l => if l.length < sizeLine then (putO 4 (l ++ [r]) (su K W F S (.v k) (.v v))).map fun r' => (D.non, r') else none) = _
  rw [Option.bind_some, Option.bind_some, if_pos (line hS)]; rfl
def Down (ts P : List D) : Prop := ∀ (K W : D) (n : Nat) (F Q : List D), F.length + P.length ≤ 1000 → Q.length + P.length ≤ 1000 → sWhile (n + P.length) (mTruB (mOwn 3)) bodyD (st K W F (Q ++ ts.reverse)) = sWhile n (mTruB (mOwn 3)) bodyD (st K W (F ++ P) Q)
def Up (P rs : List D) : Prop := ∀ (K W : D) (F rest S : List D) (x y : Sl), S.length + P.length ≤ 1000 → fre x → fre y → ∃ x' y', fre x' ∧ fre y' ∧ forL bdU bodyU (P.reverse ++ rest) (su K W F S x y) = forL bdU bodyU rest (su K W F (S ++ rs.reverse) x' y')
theorem walk_nil : Down [] [] ∧ Up [] [] := ⟨fun K W n F Q _ _ => by simp, fun K W F rest S x y _ hx hy => ⟨x, y, hx, hy, by simp⟩⟩
theorem walk_app {t r : D} {ts rs P P' : List D} (d : Down [t] P) (u : Up P [r]) (d' : Down ts P') (u' : Up P' rs) (hr : rs.length ≤ P'.length) (h1 : 1 ≤ P.length) (hts : ts.length ≤ P'.length) : Down (t :: ts) (P ++ P') ∧ Up (P ++ P') (r :: rs) := by
  constructor
  · intro K W n F Q hF hQ
    rw [List.length_append] at hF hQ
    have a := d K W (n + P'.length) F (Q ++ ts.reverse) (by omega) (by simp; omega)
    have b := d' K W n (F ++ P) Q (by rw [List.length_append]; omega) (by omega)
    rw [List.length_append, show n + (P.length + P'.length) = n + P'.length + P.length by omega, List.reverse_cons, ← List.append_assoc, ← List.append_assoc, ← b]
    exact a
  · intro K W F rest S x y hS hx hy
    rw [List.length_append] at hS
    obtain ⟨x1, y1, a1, a2, a3⟩ := u' K W F (P.reverse ++ rest) S x y (by omega) hx hy
    obtain ⟨x2, y2, b1, b2, b3⟩ := u K W F rest (S ++ rs.reverse) x1 y1 (by simp; omega) a1 a2
    refine ⟨x2, y2, b1, b2, ?_⟩
    rw [List.reverse_append, List.append_assoc, a3, b3, List.reverse_cons]
    simp
theorem walk_node {k v r : D} {ts rs P : List D} (h : Node k v r ts rs) (d : Down ts P) (u : Up P rs) (hl : ts.length ≤ P.length) : Down [.tup [k, v]] (.tup [k, v] :: P) ∧ Up (.tup [k, v] :: P) [r] := by
  have e3 := h.2.2
  constructor
  · intro K W n F Q hF hQ
    rw [List.length_cons] at hF hQ
    have a := d K W n (F ++ [.tup [k, v]]) Q (by simp; omega) (by omega)
    rw [List.length_cons, show n + (P.length + 1) = n + P.length + 1 by omega]
    rw [while_go (r' := st K W (F ++ [.tup [k, v]]) (Q ++ ts.reverse)) ?_ (down_step h (by omega) (by omega)), a]
    · simp
    · show some (!(Q ++ [D.tup [k, v]].reverse).isEmpty) = _
      simp
  · intro K W F rest S x y hS hx hy
    rw [List.length_cons] at hS
    obtain ⟨x1, y1, a1, a2, a3⟩ := u K W F (.tup [k, v] :: rest) S x y (by omega) hx hy
    refine ⟨.v k, .v v, trivial, trivial, ?_⟩
    rw [List.reverse_cons, List.append_assoc, List.singleton_append, a3]
    have b : bdU (.tup [k, v]) (su K W F (S ++ rs.reverse) x1 y1) = some (su K W F (S ++ rs.reverse) (.v k) (.v v)) := bdP (r1 := su K W F (S ++ rs.reverse) (.v k) y1) (setV_fre (x := x1) rfl a1) (setV_fre (x := y1) rfl a2)
    rw [for_go b (up_step h (by omega) (by omega))]
    simp
mutual
theorem Good.walk {k v r : D} {s : Nat} : Good k v r s → s ≤ 100 → ∃ P : List D, P.length ≤ s ∧ 1 ≤ P.length ∧ Down [.tup [k, v]] P ∧ Up P [r]
  | .num i, _ => by
    obtain ⟨a, b⟩ := walk_node (node_num i) walk_nil.1 walk_nil.2 (by simp)
    exact ⟨_, by simp, by simp, a, b⟩
  | .fn x y _ _, _ => by
    obtain ⟨a, b⟩ := walk_node (node_fn x y) walk_nil.1 walk_nil.2 (by simp)
    exact ⟨_, by simp, by simp, a, b⟩
  | .rc fs vs rs t s ht h, hs => by
    obtain ⟨P, p1, p2, p3, p4⟩ := GoodL.walk h (by omega)
    have nd := node_rc (t := t) h (by omega)
    have hl := h.len
    obtain ⟨a, b⟩ := walk_node nd p3 p4 (by rw [nd.2.2, List.length_map]; omega)
    exact ⟨_, by rw [List.length_cons]; omega, by rw [List.length_cons]; omega, a, b⟩
  | .one fs t p lb k v r s _ _ hl hp h5 h, hs => by
    obtain ⟨P, p1, p2, p3, p4⟩ := Good.walk h (by omega)
    obtain ⟨a, b⟩ := walk_node (node_one (t := t) (v := v) (r := r) hp) p3 p4 (by simpa using p2)
    exact ⟨_, by rw [List.length_cons]; omega, by rw [List.length_cons]; omega, a, b⟩
theorem GoodL.walk {fs vs rs : List D} {s : Nat} : GoodL fs vs rs s → s ≤ 100 → ∃ P : List D, P.length ≤ s ∧ fs.length ≤ P.length ∧ Down (kids fs vs) P ∧ Up P (rs.map snd)
  | .nil, _ => ⟨[], by simp, by simp, walk_nil.1, walk_nil.2⟩
  | .cons lb k v r s fs vs rs u hl h t, hs => by
    obtain ⟨P, p1, p2, p3, p4⟩ := Good.walk h (by omega)
    obtain ⟨P', q1, q2, q3, q4⟩ := GoodL.walk t (by omega)
    have hn := t.len
    obtain ⟨a, b⟩ := walk_app p3 p4 q3 q4 (by rw [List.length_map]; omega) p2 (by simp [kids]; omega)
    exact ⟨_, by rw [List.length_append]; omega, by rw [List.length_append, List.length_cons]; omega, a, b⟩
end
theorem read_by_eq {k v r : D} {s : Nat} (h : Good k v r s) (hs : s ≤ 100) : ∃ as, F_read_by [.v k, .v v] = some (.v r, as) := by
  obtain ⟨P, p1, p2, p3, p4⟩ := h.walk hs
  obtain ⟨x, y, x1, y1, e⟩ := p4 k v P [] [] .un .un (by simp; omega) trivial trivial
  refine mk_rt (r' := [.v k, .v v, .o P, .o [], .o [r], x, y]) ?_
  show g_read_by [.v k, .v v, .un, .un, .un, .un, .un] = _
  unfold g_read_by
  rw [seq_of (r' := [.v k, .v v, .o [], .un, .un, .un, .un]) (by rfl)]
  rw [seq_of (r' := st k v [] ([] ++ [D.tup [k, v]].reverse)) (by rfl)]
  have w : sWhile WF (mTruB (mOwn 3)) bodyD (st k v [] ([] ++ [D.tup [k, v]].reverse)) = some (.nx (st k v P [])) := by
    obtain ⟨m, hm⟩ : ∃ m, WF = (m + 1) + P.length := ⟨99999 - P.length, by show 100000 = _; omega⟩
    rw [hm, p3 k v (m + 1) [] [] (by simp; omega) (by simp; omega), List.nil_append]
    exact while_end rfl
  unfold bodyD at w
  rw [seq_of w]
  rw [seq_of (r' := [.v k, .v v, .o P, .o [], .o [], .un, .un]) (by rfl)]
  have u : sZ 2 (sFor bdU (mBackK (mZs 2)) bodyU) [.v k, .v v, .o P, .o [], .o [], .un, .un] = some (.nx [.v k, .v v, .o P, .o [], .o [r], x, y]) := by
    unfold sZ
    show (some (su k v P [] .un .un)).bind _ = _
    rw [Option.bind_some]
    have f : sFor bdU (mBackK (mZs 2)) bodyU (su k v P [] .un .un) = some (.nx (su k v P [r] x y)) := by
      unfold sFor
      show (some P.reverse).bind _ = _
      rw [Option.bind_some]
      have e' := e
      rw [List.append_nil] at e'
      rw [e']; rfl
    rw [f]; rfl
  unfold bdU bodyU at u
  rw [seq_of u]
  exact ret_of rfl
structure Itm where
  k : D
  v : D
  r : D
  s : Nat
def toD (i : Itm) : D := .lst [i.k, i.v, i.r, .int (i.s : Nat)]
def Itm.ok (i : Itm) : Prop := Good i.k i.v i.r i.s
theorem leaf_eq {n : Int} : ∃ i : Itm, i.ok ∧ i.s ≤ 3 ∧ ∃ as, F__law_leaf [.v (.int n)] = some (.v (toD i), as) := by
  by_cases h : n % 4 = 0
  · have q0 : 0 ≤ n / 4 % 2 := Int.emod_nonneg _ (by decide)
    have q1 : n / 4 % 2 < 2 := Int.emod_lt_of_pos _ (by decide)
    let c0 : D := .tup [sNum]
    let c1 : D := .tup [.str [118, 97, 114], .int (50 + n / 4 % 30)]
    obtain ⟨b, hb, eb⟩ : ∃ b, (∀ l, apD l b = true) ∧ atI [c0, c1] (n / 4 % 2) = some b := by
      rcases (show n / 4 % 2 = 0 ∨ n / 4 % 2 = 1 by omega) with e | e
      · exact ⟨c0, fun l => rfl, by rw [e]; rfl⟩
      · exact ⟨c1, fun l => rfl, by rw [e]; rfl⟩
    refine ⟨⟨.tup [sFun, .tup [sNum], b], .tup [sFn], .tup [sFn], 3⟩, .fn _ _ (fun l => rfl) hb, Nat.le_refl _, mk_rt (r' := [.v (.int n), .v (.tup [sFun, .tup [sNum], b])]) ?_⟩
    show g__law_leaf [.v (.int n), .un] = _
    unfold g__law_leaf
    refine seq_tt (by rw [eq_int (mod_of (i := n) rfl con_of (by decide)) con_of, decide_eq_true h]) ?_
    have e1 : mBin addD (mC (.int 50)) (mBin modD (mBin fdivD (mVar 0) (mC (.int 4))) (mC (.int 30))) [.v (.int n), .un] = some (.int (50 + n / 4 % 30)) := add_of con_of (mod_of (fdiv_of (i := n) rfl con_of (by decide)) con_of (by decide))
    have e2 : mBin modD (mBin fdivD (mVar 0) (mC (.int 4))) (mC (.int 2)) [.v (.int n), .un] = some (.int (n / 4 % 2)) := mod_of (fdiv_of (i := n) rfl con_of (by decide)) con_of (by decide)
    have t0 : mTup (mCons (mC (.str [110, 117, 109])) mNil) [.v (.int n), .un] = some c0 := rfl
    refine seq_set (.tup [sFun, .tup [sNum], b]) (tup_of (cons_of (x := sFun) con_of (cons_of t0 (cons_of (x := b) (bin_of (lstF_of (l := [c0, c1]) (cons_of t0 (cons_of (tup_of (cons_of con_of (cons_of e1 nil_of)) (by simp)) nil_of)) (by simp)) e2 eb) nil_of))) (by simp)) (r2 := [.v (.int n), .v (.tup [sFun, .tup [sNum], b])]) (by rfl) ?_
    exact ret_of rfl
  · refine ⟨⟨.tup [sNum], .int (n / 4 % 1000000), .int (n / 4 % 1000000), 1⟩, .num _, by show 1 ≤ 3; decide, mk_rt (r' := [.v (.int n), .un]) ?_⟩
    show g__law_leaf [.v (.int n), .un] = _
    unfold g__law_leaf
    have e2 : mBin modD (mBin fdivD (mVar 0) (mC (.int 4))) (mC (.int 1000000)) [.v (.int n), .un] = some (.int (n / 4 % 1000000)) := mod_of (fdiv_of (i := n) rfl con_of (by decide)) con_of (by decide)
    refine seq_ff (by rw [eq_int (mod_of (i := n) rfl con_of (by decide)) con_of, decide_eq_false h]) (ret_of ?_)
    exact lstF_of (l := [.tup [sNum], .int (n / 4 % 1000000), .int (n / 4 % 1000000), .int 1]) (cons_of rfl (cons_of e2 (cons_of e2 (cons_of con_of nil_of)))) (by simp)
theorem cut_from {α : Type} (s : List α) (k : Nat) (h : k ≤ s.length) : cutL s (some (k : Int)) none = s.drop k := by
  unfold cutL
  rw [HT.sIx_nat, HT.sIx_none, Nat.min_eq_left h, List.take_of_length_le (by rw [List.length_drop]; omega)]
theorem goodL_zip : ∀ (L : List (List Nat)) (ps : List Itm), L.length = ps.length → (∀ w ∈ L, lw w) → (∀ i ∈ ps, i.ok) →
    GoodL (List.zipWith (fun lb (i : Itm) => D.tup [.str lb, i.k]) L ps) (ps.map (·.v)) (List.zipWith (fun lb (i : Itm) => D.tup [.str lb, i.r]) L ps) (ps.map (·.s)).sum
  | [], [], _, _, _ => .nil
  | w :: L, i :: ps, hl, h1, h2 => by
    rw [List.map_cons, List.map_cons, List.sum_cons]
    exact .cons w i.k i.v i.r i.s _ _ _ _ (h1 w (by simp)) (h2 i (by simp)) (goodL_zip L ps (by simpa using hl) (fun w' hw => h1 w' (by simp [hw])) fun i' hi => h2 i' (by simp [hi]))
  | [], i :: ps, hl, _, _ => by simp at hl
  | w :: L, [], hl, _, _ => by simp at hl
theorem lp_comp {r : En} {L : List (List Nat)} {ps : List Itm} {q : Itm → D} {c : Int} (hl : L.length = ps.length) (hm : ps.length < 100) (e2 : r[2]? = some (.v (.int (ps.length : Int)))) (hc : capR [3, 4] 3 r = [.v (.lst (L.map .str)), .v (.lst (ps.map toD)), .un])
    (hq : ∀ (f : ME) (r : En) (i : Itm), f r = some (toD i) → mBin ixD f (mC (.int c)) r = some (q i)) :
    mTupOf (mComp [3, 4] 3 (mRng1 (mVar 2)) (setV 2) (mTup (mCons (mBin ixD (mVar 0) (mVar 2)) (mCons (mBin ixD (mBin ixD (mVar 1) (mVar 2)) (mC (.int c))) mNil)))) r = some (.tup (List.zipWith (fun lb i => .tup [.str lb, q i]) L ps)) := by
  unfold mTupOf
  rw [comp_of (P := fun r => ∃ z, r = [.v (.lst (L.map .str)), .v (.lst (ps.map toD)), z] ∧ fre z) (out := List.zipWith (fun lb i => .tup [.str lb, q i]) L ps) (rng_of (n := ps.length) (var_of e2) (by omega)) (by simp; omega) (by simp; omega) ?_ ⟨.un, hc, trivial⟩]
  · rfl
  rintro j d y hd hy r ⟨z, rfl, hz⟩
  have hj : j < ps.length := by
    have := (List.getElem?_eq_some_iff.mp hd).1
    simpa using this
  have hjL : j < L.length := by omega
  have hd' : d = .int ((0 : Int) + (j : Nat)) := by
    rw [List.getElem?_map, List.getElem?_range hj] at hd
    exact (Option.some.inj hd).symm
  subst hd'
  have hy' : y = .tup [.str L[j], q ps[j]] := by
    rw [List.getElem?_zipWith, List.getElem?_eq_getElem hj, List.getElem?_eq_getElem hjL] at hy
    exact (Option.some.inj hy).symm
  subst hy'
  refine ⟨[.v (.lst (L.map .str)), .v (.lst (ps.map toD)), .v (.int ((0 : Int) + (j : Nat)))], setV_fre (x := z) rfl hz, ?_, _, rfl, trivial⟩
  have a1 : mBin ixD (mVar 0) (mVar 2) [.v (.lst (L.map .str)), .v (.lst (ps.map toD)), .v (.int ((0 : Int) + (j : Nat)))] = some (.str L[j]) := by
    refine bin_of (x := .lst (L.map .str)) (y := .int ((0 : Int) + (j : Nat))) rfl rfl ?_
    show atI (L.map D.str) ((0 : Int) + (j : Nat)) = _
    rw [Int.zero_add]
    exact atI_nat (by rw [List.getElem?_map, List.getElem?_eq_getElem hjL]; rfl)
  have a2 : mBin ixD (mVar 1) (mVar 2) [.v (.lst (L.map .str)), .v (.lst (ps.map toD)), .v (.int ((0 : Int) + (j : Nat)))] = some (toD ps[j]) := by
    refine bin_of (x := .lst (ps.map toD)) (y := .int ((0 : Int) + (j : Nat))) rfl rfl ?_
    show atI (ps.map toD) ((0 : Int) + (j : Nat)) = _
    rw [Int.zero_add]
    exact atI_nat (by rw [List.getElem?_map, List.getElem?_eq_getElem hj]; rfl)
  exact tup_of (cons_of a1 (cons_of (hq _ _ _ a2) nil_of)) (by simp)
theorem p_comp {r : En} {ps : List Itm} {q : Itm → D} {c : Int} (hm : ps.length < 100) (e4 : r[4]? = some (.v (.lst (ps.map toD))))
    (hq : ∀ (f : ME) (r : En) (i : Itm), f r = some (toD i) → mBin ixD f (mC (.int c)) r = some (q i)) :
    mComp [] 1 (mIt (mVar 4)) (setV 0) (mBin ixD (mVar 0) (mC (.int c))) r = some (ps.map q) := by
  refine comp_of (P := fun r => ∃ z, r = [z] ∧ fre z) (l := ps.map toD) ?_ (by simp; omega) (by simp) ?_ ⟨.un, rfl, trivial⟩
  · unfold mIt; rw [var_of e4]; rfl
  rintro j d y hd hy r ⟨z, rfl, hz⟩
  have hj : j < ps.length := by
    have := (List.getElem?_eq_some_iff.mp hd).1
    simpa using this
  rw [List.getElem?_map, List.getElem?_eq_getElem hj] at hd hy
  have hd' := (Option.some.inj hd).symm
  have hy' := (Option.some.inj hy).symm
  subst hd' hy'
  exact ⟨[.v (toD ps[j])], setV_fre (x := z) rfl hz, hq _ _ _ rfl, _, rfl, trivial⟩
theorem ints_of : ∀ (ps : List Itm), intsD (ps.map fun i => .int (i.s : Nat)) = some (ps.map fun i => (i.s : Int))
  | [] => rfl
  | i :: ps => by rw [List.map_cons, intsD, ints_of ps]; rfl
theorem sum_cast : ∀ (ps : List Itm), (ps.map fun i => (i.s : Int)).sum = (((ps.map (·.s)).sum : Nat) : Int)
  | [] => rfl
  | i :: ps => by rw [List.map_cons, List.sum_cons, List.map_cons, List.sum_cons, sum_cast ps, Int.natCast_add]
theorem q_k (f : ME) (r : En) (i : Itm) (h : f r = some (toD i)) : mBin ixD f (mC (.int 0)) r = some i.k := iy0 h
theorem q_v (f : ME) (r : En) (i : Itm) (h : f r = some (toD i)) : mBin ixD f (mC (.int 1)) r = some i.v := iy1 h
theorem q_r (f : ME) (r : En) (i : Itm) (h : f r = some (toD i)) : mBin ixD f (mC (.int 2)) r = some i.r := iy2 h
theorem q_s (f : ME) (r : En) (i : Itm) (h : f r = some (toD i)) : mBin ixD f (mC (.int 3)) r = some (.int (i.s : Nat)) := iy3 h
theorem tail_ap {t : D} (h : t = .non ∨ ∃ i, t = .int i) (l : List D) : apD l t = true := by
  rcases h with rfl | ⟨i, rfl⟩ <;> rfl
theorem record_eq {items : List Itm} {n : Int} (hi : ∀ i ∈ items, i.ok) (hl : items.length ≤ 90) : ∃ (m : Nat) (i : Itm), m ≤ items.length ∧ i.ok ∧ ∃ as, F__law_record [.v (.lst (items.map toD)), .v (.int n)] = some (.v (.tup [.int (m : Nat), toD i]), as) := by
  have q0 : 0 ≤ n % 5 := Int.emod_nonneg _ (by decide)
  have q1 : n % 5 < 5 := Int.emod_lt_of_pos _ (by decide)
  obtain ⟨m, m1, m2, m3⟩ : ∃ m : Nat, m ≤ items.length ∧ m ≤ 5 ∧ (if (items.length : Int) < n % 5 then (items.length : Int) else n % 5) = (m : Int) := by
    split
    · exact ⟨items.length, Nat.le_refl _, by omega, rfl⟩
    · obtain ⟨k, hk⟩ := Int.eq_ofNat_of_zero_le q0
      exact ⟨k, by omega, by omega, hk⟩
  obtain ⟨L, l1, l2, as1, l3⟩ := labels_eq (n := n / 5) m2
  obtain ⟨t, t1, as2, t2⟩ := tail_eq (n := n / 1000)
  let ps := items.drop (items.length - m)
  have pl : ps.length = m := by show (items.drop _).length = m; rw [List.length_drop]; omega
  let S : D := .lst (items.map toD)
  let fs := List.zipWith (fun lb (i : Itm) => D.tup [.str lb, i.k]) L ps
  let rs := List.zipWith (fun lb (i : Itm) => D.tup [.str lb, i.r]) L ps
  let sz : Nat := 2 + fs.length + (ps.map (·.s)).sum
  have fl : fs.length = m := by show (List.zipWith _ L ps).length = m; rw [List.length_zipWith]; omega
  let kd : D := .tup [sRec, .tup [sRow, .tup fs, t]]
  let rd : D := .tup [sRec, .tup rs]
  let it : Itm := ⟨kd, .tup [sRec, .tup (ps.map (·.v))], rd, sz⟩
  refine ⟨m, it, m1, .rc fs _ rs t _ (tail_ap t1) (goodL_zip L ps (by omega) l1 fun i h => hi i (List.mem_of_mem_drop h)), mk_rt (r' := [.v S, .v (.int n), .v (.int (m : Int)), .v (.lst (L.map .str)), .v (.lst (ps.map toD)), .v (.tup fs), .v kd, .v rd, .v (.int (sz : Int))]) ?_⟩
  show g__law_record [.v S, .v (.int n), .un, .un, .un, .un, .un, .un, .un] = _
  unfold g__law_record
  have sl : (items.map toD).length = items.length := List.length_map _
  refine seq_set (.int (m : Int)) ?_ (r2 := [.v S, .v (.int n), .v (.int (m : Int)), .un, .un, .un, .un, .un, .un]) (by rfl) ?_
  · unfold mMin
    rw [cons_of (mod_of (i := n) rfl con_of (by decide)) (cons_of (x := .int ((items.map toD).length : Int)) (un_of (x := S) rfl rfl) nil_of), sl, Option.bind_some]
    show some (D.int (if (items.length : Int) < n % 5 then (items.length : Int) else n % 5)) = _
    rw [m3]
  refine seq_set (.lst (L.map .str)) (call_of (p := .v (.lst (L.map .str))) (cons_of (fdiv_of (i := n) rfl con_of (by decide)) (cons_of (x := .int (m : Int)) rfl nil_of)) rfl ⟨as1, l3⟩) (r2 := [.v S, .v (.int n), .v (.int (m : Int)), .v (.lst (L.map .str)), .un, .un, .un, .un, .un]) (by rfl) ?_
  refine seq_set (.lst (ps.map toD)) ?_ (r2 := [.v S, .v (.int n), .v (.int (m : Int)), .v (.lst (L.map .str)), .v (.lst (ps.map toD)), .un, .un, .un, .un]) (by rfl) ?_
  · have e1 : mBin subD (mUn lenD (mVar 0)) (mVar 2) [.v S, .v (.int n), .v (.int (m : Int)), .v (.lst (L.map .str)), .un, .un, .un, .un, .un] = some (.int ((items.length - m : Nat) : Int)) := by
      refine bin_of (x := .int ((items.map toD).length : Int)) (y := .int (m : Int)) (un_of (x := S) rfl rfl) rfl ?_
      rw [sl]
      show some (D.int ((items.length : Int) - (m : Int))) = _
      rw [Int.natCast_sub m1]
    refine sl_of (x := S) rfl (osome_of e1) rfl ?_
    show some (D.lst (cutL (items.map toD) _ _)) = _
    rw [cut_from _ _ (by rw [sl]; omega), ← List.map_drop]
  refine seq_set (.tup fs) (lp_comp (q := (·.k)) (ps := ps) (L := L) (by omega) (by omega) (by rw [pl]; rfl) rfl q_k) (r2 := [.v S, .v (.int n), .v (.int (m : Int)), .v (.lst (L.map .str)), .v (.lst (ps.map toD)), .v (.tup fs), .un, .un, .un]) (by rfl) ?_
  refine seq_set kd ?_ (r2 := [.v S, .v (.int n), .v (.int (m : Int)), .v (.lst (L.map .str)), .v (.lst (ps.map toD)), .v (.tup fs), .v kd, .un, .un]) (by rfl) ?_
  · exact tup_of (cons_of (x := sRec) con_of (cons_of (tup_of (cons_of (x := sRow) con_of (cons_of (x := .tup fs) rfl (cons_of (x := t) (call_of (p := .v t) (cons_of (fdiv_of (i := n) rfl con_of (by decide)) nil_of) rfl ⟨as2, t2⟩) nil_of))) (by simp)) nil_of)) (by simp)
  refine seq_set rd (tup_of (cons_of (x := sRec) con_of (cons_of (lp_comp (q := (·.r)) (ps := ps) (L := L) (by omega) (by omega) (by rw [pl]; rfl) rfl q_r) nil_of)) (by simp)) (r2 := [.v S, .v (.int n), .v (.int (m : Int)), .v (.lst (L.map .str)), .v (.lst (ps.map toD)), .v (.tup fs), .v kd, .v rd, .un]) (by rfl) ?_
  refine seq_set (.int (sz : Int)) ?_ (r2 := [.v S, .v (.int n), .v (.int (m : Int)), .v (.lst (L.map .str)), .v (.lst (ps.map toD)), .v (.tup fs), .v kd, .v rd, .v (.int (sz : Int))]) (by rfl) ?_
  · have e1 : mSumL (mComp [] 1 (mIt (mVar 4)) (setV 0) (mBin ixD (mVar 0) (mC (.int 3)))) [.v S, .v (.int n), .v (.int (m : Int)), .v (.lst (L.map .str)), .v (.lst (ps.map toD)), .v (.tup fs), .v kd, .v rd, .un] = some (.int (((ps.map (·.s)).sum : Nat) : Int)) := by
      unfold mSumL
      rw [p_comp (ps := ps) (by omega) rfl q_s, Option.bind_some, ints_of, ← sum_cast]; rfl
    rw [add_of (add_of con_of (j := (m : Int)) rfl) e1]
    show some (D.int _) = some (D.int _)
    rw [show (sz : Int) = 2 + (m : Int) + (((ps.map (·.s)).sum : Nat) : Int) by show ((2 + fs.length + (ps.map (·.s)).sum : Nat) : Int) = _; rw [fl]; omega]
  refine ret_of (tup_of (cons_of (x := .int (m : Int)) rfl (cons_of (x := toD it) ?_ nil_of)) (by simp))
  have e6 : mVar 6 [.v S, .v (.int n), .v (.int (m : Int)), .v (.lst (L.map .str)), .v (.lst (ps.map toD)), .v (.tup fs), .v kd, .v rd, .v (.int (sz : Int))] = some kd := rfl
  have e7 : mVar 7 [.v S, .v (.int n), .v (.int (m : Int)), .v (.lst (L.map .str)), .v (.lst (ps.map toD)), .v (.tup fs), .v kd, .v rd, .v (.int (sz : Int))] = some rd := rfl
  have e8 : mVar 8 [.v S, .v (.int n), .v (.int (m : Int)), .v (.lst (L.map .str)), .v (.lst (ps.map toD)), .v (.tup fs), .v kd, .v rd, .v (.int (sz : Int))] = some (.int (sz : Int)) := rfl
  have e9 : mTupOf (mComp [] 1 (mIt (mVar 4)) (setV 0) (mBin ixD (mVar 0) (mC (.int 1)))) [.v S, .v (.int n), .v (.int (m : Int)), .v (.lst (L.map .str)), .v (.lst (ps.map toD)), .v (.tup fs), .v kd, .v rd, .v (.int (sz : Int))] = some (.tup (ps.map (·.v))) := by
    unfold mTupOf
    rw [p_comp (ps := ps) (by omega) rfl q_v]; rfl
  have e10 := cons_of e6 (cons_of (tup_of (cons_of (x := sRec) con_of (cons_of e9 nil_of)) (by simp)) (cons_of e7 (cons_of e8 nil_of)))
  exact lstF_of e10 (by simp)
theorem eqT_int (a b : Int) : eqT (.int a) (.int b) = some (.bl (decide (a = b))) := by
  unfold DD.eqT
  rw [if_pos ⟨rfl, rfl⟩]
  rfl
noncomputable def bodyC : MS := (sIf (mBl (mBin eqT (mVar 7) (mVar 3)))
 (sX (mApp 6 (mTup (mCons (mBin ixD (mVar 4) (mVar 7)) (mCons (mBin ixD (mVar 5) (mC (.int 0))) mNil)))))
 (sX (mApp 6 (mTup (mCons (mBin ixD (mVar 4) (mVar 7)) (mCons (mBin ixD (mCall 1 F__law_leaf (mCons (mBin addD (mBin fdivD (mVar 1) (mC (.int 5))) (mVar 7)) mNil)) (mC (.int 0))) mNil))))))
def sc (S : D) (n : Int) (m p : Nat) (L : List (List Nat)) (i0 : Itm) (F : List D) (x : Sl) : En := [.v S, .v (.int n), .v (.int (m : Int)), .v (.int (p : Int)), .v (.lst (L.map .str)), .v (toD i0), .o F, x, .un]
def flds (L : List (List Nat)) (p : Nat) (i0 : Itm) (F : List D) : Prop := (∀ l, apL l F = true) ∧ ∀ (h : p < F.length) (hL : p < L.length), F[p]? = some (.tup [.str L[p], i0.k])
theorem apL_app (l : List D) : ∀ (a b : List D), apL l (a ++ b) = (apL l a && apL l b)
  | [], b => by simp [apL]
  | d :: a, b => by rw [List.cons_append, apL, apL, apL_app l a b, Bool.and_assoc]
theorem choice_loop {S : D} {n : Int} {m p : Nat} {L : List (List Nat)} {i0 : Itm} (h0 : i0.ok) (hL : L.length ≤ 5) : ∀ (c j : Nat) (F : List D) (x : Sl), F.length = j → j + c = L.length → flds L p i0 F → fre x →
    ∃ F' x', F'.length = L.length ∧ flds L p i0 F' ∧ forL (setV 7) bodyC ((List.range' j c).map fun k => .int ((0 : Int) + (k : Nat))) (sc S n m p L i0 F x) = some (.nx (sc S n m p L i0 F' x'))
  | 0, j, F, x, h1, h2, h3, h4 => ⟨F, x, by omega, h3, rfl⟩
  | c + 1, j, F, x, h1, h2, h3, h4 => by
    have hj : j < L.length := by omega
    obtain ⟨i1, o1, _, as1, lf⟩ := leaf_eq (n := n / 5 + ((0 : Int) + (j : Nat)))
    let K : D := if (j : Int) = (p : Int) then i0.k else i1.k
    have hK : ∀ l, apD l K = true := fun l => by
      show apD l (if (j : Int) = (p : Int) then i0.k else i1.k) = true
      split
      · exact (h0.ap l).1
      · exact (o1.ap l).1
    have step : bodyC (sc S n m p L i0 F (.v (.int ((0 : Int) + (j : Nat))))) = some (.nx (sc S n m p L i0 (F ++ [.tup [.str L[j], K]]) (.v (.int ((0 : Int) + (j : Nat)))))) := by
      unfold bodyC
      have a1 : mBin ixD (mVar 4) (mVar 7) (sc S n m p L i0 F (.v (.int ((0 : Int) + (j : Nat))))) = some (.str L[j]) := by
        refine bin_of (x := .lst (L.map .str)) (y := .int ((0 : Int) + (j : Nat))) rfl rfl ?_
        show atI (L.map D.str) ((0 : Int) + (j : Nat)) = _
        rw [Int.zero_add]
        exact atI_nat (by rw [List.getElem?_map, List.getElem?_eq_getElem hj]; rfl)
      have ce : mBl (mBin eqT (mVar 7) (mVar 3)) (sc S n m p L i0 F (.v (.int ((0 : Int) + (j : Nat))))) = some (decide ((0 : Int) + (j : Nat) = (p : Int))) := bl_of (bin_of (x := .int ((0 : Int) + (j : Nat))) (y := .int (p : Int)) rfl rfl (eqT_int _ _))
      have hF : F.length < sizeLine := line (by omega)
      by_cases hp : (j : Int) = (p : Int)
      · rw [sIf_t (by rw [ce, Int.zero_add, decide_eq_true hp])]
        have k1 : K = i0.k := if_pos hp
        rw [k1]
        exact sX_of (app_of rfl (tup_of (cons_of a1 (cons_of (q_k (mVar 5) _ i0 rfl) nil_of)) (by simp)) hF)
      · rw [sIf_f (by rw [ce, Int.zero_add, decide_eq_false hp])]
        have k1 : K = i1.k := if_neg hp
        rw [k1]
        have c1 : mCall 1 F__law_leaf (mCons (mBin addD (mBin fdivD (mVar 1) (mC (.int 5))) (mVar 7)) mNil) (sc S n m p L i0 F (.v (.int ((0 : Int) + (j : Nat))))) = some (toD i1) := call_of (p := .v (toD i1)) (cons_of (add_of (fdiv_of (i := n) rfl con_of (by decide)) (j := (0 : Int) + (j : Nat)) rfl) nil_of) rfl ⟨as1, lf⟩
        exact sX_of (app_of rfl (tup_of (cons_of a1 (cons_of (q_k _ _ i1 c1) nil_of)) (by simp)) hF)
    obtain ⟨F', x', f1, f2, f3⟩ := choice_loop (S := S) (n := n) (m := m) (p := p) h0 hL c (j + 1) (F ++ [.tup [.str L[j], K]]) (.v (.int ((0 : Int) + (j : Nat)))) (by simp [h1]) (by omega) ⟨fun l => by rw [apL_app, h3.1 l]; simp [apL, apD, hK l], fun hp hpL => by
        rw [List.length_append, List.length_singleton] at hp
        by_cases e : p < F.length
        · rw [List.getElem?_append_left e]; exact h3.2 e hpL
        · have ep : p = j := by omega
          have hk : K = i0.k := if_pos (by omega)
          have hLj : L[j] = L[p] := by simp [ep]
          rw [List.getElem?_append_right (by omega), show p - F.length = 0 by omega, hk, hLj, List.getElem?_cons_zero]⟩ trivial
    refine ⟨F', x', f1, f2, ?_⟩
    rw [List.range'_succ, List.map_cons, for_go (r1 := sc S n m p L i0 F (.v (.int ((0 : Int) + (j : Nat))))) (setV_fre (x := x) rfl h4) step, f3]
theorem choice_eq {A : List Itm} {i0 : Itm} {n : Int} (h0 : i0.ok) : ∃ i : Itm, i.ok ∧ i.s ≤ i0.s + 22 ∧ ∃ as, F__law_choice [.v (.lst ((A ++ [i0]).map toD)), .v (.int n)] = some (.v (toD i), as) := by
  have q0 : 0 ≤ n % 5 := Int.emod_nonneg _ (by decide)
  have q1 : n % 5 < 5 := Int.emod_lt_of_pos _ (by decide)
  obtain ⟨m', hm'⟩ := Int.eq_ofNat_of_zero_le q0
  obtain ⟨m, hm⟩ : ∃ m : Nat, m = 1 + m' := ⟨_, rfl⟩
  have m5 : m ≤ 5 := by omega
  have em : 1 + n % 5 = (m : Int) := by omega
  have p0 : 0 ≤ n / 5 % (m : Int) := Int.emod_nonneg _ (by omega)
  have p1 : n / 5 % (m : Int) < (m : Int) := Int.emod_lt_of_pos _ (by omega)
  obtain ⟨p, hp⟩ := Int.eq_ofNat_of_zero_le p0
  have pm : p < m := by omega
  obtain ⟨L, l1, l2, as1, l3⟩ := labels_eq (n := n / 25) m5
  obtain ⟨t, t1, as2, t2⟩ := tail_eq (n := n / 1000)
  let S : D := .lst ((A ++ [i0]).map toD)
  obtain ⟨F, x', f1, f2, f3⟩ := choice_loop (S := S) (n := n) (m := m) (p := p) (L := L) h0 (by omega) m 0 [] .un rfl (by omega) ⟨fun l => rfl, fun h => by simp at h⟩ trivial
  have pF : p < F.length := by omega
  have pL : p < L.length := by omega
  have ff := f2.2 pF pL
  let kd : D := .tup [sOne, .tup [sRow, .tup F, t]]
  let sz : Nat := i0.s + 2 + 4 * F.length
  let it : Itm := ⟨kd, .tup [sOne, .int (p : Nat), i0.v], .tup [sOne, .str L[p], i0.r], sz⟩
  have ok : it.ok := .one F t p L[p] i0.k i0.v i0.r i0.s f2.1 (tail_ap t1) (l1 _ (List.getElem_mem pL)) ff (by omega) h0
  let R : En := [.v S, .v (.int n), .v (.int (m : Int)), .v (.int (p : Int)), .v (.lst (L.map .str)), .v (toD i0), .o F, x', .v kd]
  refine ⟨it, ok, by show i0.s + 2 + 4 * F.length ≤ _; omega, mk_rt (r' := R) ?_⟩
  show g__law_choice [.v S, .v (.int n), .un, .un, .un, .un, .un, .un, .un] = _
  unfold g__law_choice
  refine seq_set (.int (m : Int)) (by rw [add_of con_of (mod_of (i := n) rfl con_of (by decide)), em]) (r2 := [.v S, .v (.int n), .v (.int (m : Int)), .un, .un, .un, .un, .un, .un]) (by rfl) ?_
  refine seq_set (.int (p : Int)) (by rw [mod_of (fdiv_of (i := n) rfl con_of (by decide)) (j := (m : Int)) rfl (by omega), hp]) (r2 := [.v S, .v (.int n), .v (.int (m : Int)), .v (.int (p : Int)), .un, .un, .un, .un, .un]) (by rfl) ?_
  refine seq_set (.lst (L.map .str)) (call_of (p := .v (.lst (L.map .str))) (cons_of (fdiv_of (i := n) rfl con_of (by decide)) (cons_of (x := .int (m : Int)) rfl nil_of)) rfl ⟨as1, l3⟩) (r2 := [.v S, .v (.int n), .v (.int (m : Int)), .v (.int (p : Int)), .v (.lst (L.map .str)), .un, .un, .un, .un]) (by rfl) ?_
  refine seq_set (toD i0) (bin_of (x := S) (y := .int (-1)) rfl rfl (by
    show atI ((A ++ [i0]).map toD) (-1) = _
    rw [List.map_append]; exact at_last _ _)) (r2 := [.v S, .v (.int n), .v (.int (m : Int)), .v (.int (p : Int)), .v (.lst (L.map .str)), .v (toD i0), .un, .un, .un]) (by rfl) ?_
  rw [seq_of (r' := sc S n m p L i0 [] .un) (by rfl)]
  have f : sFor (setV 7) (mRng1 (mVar 2)) bodyC (sc S n m p L i0 [] .un) = some (.nx (sc S n m p L i0 F x')) := by
    unfold sFor
    rw [rng_of (n := m) rfl (by omega), List.range_eq_range']
    exact f3
  unfold bodyC at f
  rw [seq_of f]
  have eT : mCall 1 F__law_tail (mCons (mBin fdivD (mVar 1) (mC (.int 1000))) mNil) (sc S n m p L i0 F x') = some t := call_of (p := .v t) (cons_of (fdiv_of (i := n) rfl con_of (by decide)) nil_of) rfl ⟨as2, t2⟩
  have eF : mTupOf (mOwn 6) (sc S n m p L i0 F x') = some (.tup F) := rfl
  refine seq_set kd (tup_of (cons_of (x := sOne) con_of (cons_of (tup_of (cons_of (x := sRow) con_of (cons_of eF (cons_of eT nil_of))) (by simp)) nil_of)) (by simp)) (r2 := R) (by rfl) ?_
  have e8 : mVar 8 R = some kd := rfl
  have e3 : mVar 3 R = some (.int (p : Int)) := rfl
  have e5 : mVar 5 R = some (toD i0) := rfl
  have eL : mBin ixD (mVar 4) (mVar 3) R = some (.str L[p]) := by
    refine bin_of (x := .lst (L.map .str)) (y := .int (p : Int)) rfl rfl ?_
    exact atI_nat (by rw [List.getElem?_map, List.getElem?_eq_getElem pL]; rfl)
  have eS : mBin addD (mBin addD (mBin ixD (mVar 5) (mC (.int 3))) (mC (.int 2))) (mBin mulD (mC (.int 4)) (mVar 2)) R = some (.int (sz : Int)) := by
    have e4 : mBin mulD (mC (.int 4)) (mVar 2) R = some (.int (4 * (m : Int))) := mul_of con_of rfl (by decide)
    rw [add_of (add_of (q_s _ _ _ e5) con_of) e4]
    show some (D.int _) = some (D.int _)
    rw [show (sz : Int) = (i0.s : Int) + 2 + 4 * (m : Int) by show ((i0.s + 2 + 4 * F.length : Nat) : Int) = _; omega]
  have e10 := cons_of e8 (cons_of (tup_of (cons_of (x := sOne) con_of (cons_of e3 (cons_of (q_v _ _ _ e5) nil_of))) (by simp)) (cons_of (tup_of (cons_of (x := sOne) con_of (cons_of eL (cons_of (q_r _ _ _ e5) nil_of))) (by simp)) (cons_of eS nil_of)))
  exact ret_of (lstF_of e10 (by simp))
theorem clash_nil (a : D) (m : List D) : clash (a :: m) [] = true := by cases a <;> simp [clash]
theorem clash_cons (a b : D) (m l : List D) (h : clash m l = true) : clash (a :: m) (b :: l) = true := by cases a <;> cases b <;> simp [clash, h]
theorem clash_int (i : Int) (b m l : List D) : clash (.int i :: m) (.lst b :: l) = true := by simp [clash]
theorem itm_clash (i : Itm) : ∀ P : List Itm, clash [i.k, i.v, i.r, .int (i.s : Nat)] (P.map toD) = true
  | [] => clash_nil _ _
  | [a] => clash_cons _ _ _ _ (clash_nil _ _)
  | [a, b] => clash_cons _ _ _ _ (clash_cons _ _ _ _ (clash_nil _ _))
  | [a, b, c] => clash_cons _ _ _ _ (clash_cons _ _ _ _ (clash_cons _ _ _ _ (clash_nil _ _)))
  | a :: b :: c :: d :: P => clash_cons _ _ _ _ (clash_cons _ _ _ _ (clash_cons _ _ _ _ (clash_int _ _ _ _)))
theorem itm_ap {i : Itm} (h : i.ok) (P : List Itm) : apD (P.map toD) (toD i) = true := by
  obtain ⟨a, b, c⟩ := h.ap (P.map toD)
  show apD (P.map toD) (.lst [i.k, i.v, i.r, .int (i.s : Nat)]) = true
  unfold apD
  rw [itm_clash]
  simp [apL, apD, a, b, c]
def Pok (P : List Itm) : Prop := ∀ i ∈ P, i.ok ∧ i.s ≤ 40
theorem Pok.ok {P : List Itm} (h : Pok P) : ∀ i ∈ P, i.ok := fun i hi => (h i hi).1
theorem Pok.app {P : List Itm} {i : Itm} (h : Pok P) (h1 : i.ok) (h2 : i.s ≤ 40) : Pok (P ++ [i]) := fun j hj => by
  rcases List.mem_append.mp hj with z | z
  · exact h j z
  · rw [List.mem_singleton.mp z]; exact ⟨h1, h2⟩
theorem callK_of {n i : Nat} {m : MF} {fs : ML} {r : En} {l ds : List D} {d : D} (e1 : mOwn i r = some l) (e2 : fs r = some ds) (hn : ds.length + 1 = n) (h : ∃ as, m ((.lst l :: ds).map .v) = some (.v d, as)) (ha : apD l d = true) : mCallK n m i fs r = some d := by
  obtain ⟨as, h⟩ := h
  unfold mCallK
  rw [e1, Option.bind_some, e2, Option.bind_some, if_pos hn, h, Option.bind_some]
  show (if apD l d = true then some d else none) = _
  rw [if_pos ha]
theorem cut_last {α : Type} (A : List α) (x : α) : cutL (A ++ [x]) none (some (-1)) = A := by
  unfold cutL
  have e : HT.sIx (A ++ [x]).length (A ++ [x]).length (some (-1)) = A.length := by
    unfold HT.sIx
    simp only
    rw [if_pos (by decide), List.length_append, List.length_singleton]
    omega
  rw [e, HT.sIx_none, List.drop_zero, Nat.sub_zero]
  simp
theorem slB_of {fl : ML} {lo hi : MO} {r : En} {l : List D} {a b : Option Int} (e1 : fl r = some l) (e2 : lo r = some a) (e3 : hi r = some b) : mSlB fl lo hi r = some (cutL l a b) := by
  unfold mSlB; rw [e1, Option.bind_some, e2, Option.bind_some, e3]; rfl
theorem cat_of {f g : ML} {r : En} {l m : List D} (e1 : f r = some l) (e2 : g r = some m) (h : l.length + m.length ≤ 1000) : mCat f g r = some (l ++ m) := by
  unfold mCat; rw [e1, Option.bind_some, e2, Option.bind_some, if_pos (Nat.le_of_lt (line h))]
theorem lst1_of {f : ME} {r : En} {d : D} (e : f r = some d) : mLstF (mCons f mNil) r = some [d] := by
  unfold mLstF; rw [cons_of e nil_of]; rfl
theorem le_of {f g : ME} {r : En} {i j : Int} (e1 : f r = some (.int i)) (e2 : g r = some (.int j)) : mBl (mBin leA f g) r = some (decide (i ≤ j)) := bl_of (bin_of e1 e2 rfl)
theorem own_of {i : Nat} {f : ML} {r r2 : En} {l : List D} (e : f r = some l) (e2 : setO i l r = some r2) : sOwn i f r = some (.nx r2) := by
  unfold sOwn; rw [e, Option.bind_some, e2]; rfl
def ls (S : D) (P : List Itm) (a b c d e f : Sl) : En := [.v S, .o (P.map toD), a, b, c, d, e, f, .un, .un, .un, .un]
noncomputable def bodyR : MS := (sSeq (sAsg (mCallK 2 F__law_record 1 (mCons (mVar 4) mNil)) (bdSeq 2 (bdCons (setV 6) (bdCons (setV 7) bdNil))))
 (sIf (mBl (mBin leA (mBin ixD (mVar 7) (mC (.int 3))) (mC (.int 40))))
 (sOwn 1 (mCat (mSlB (mOwn 1) oNone (oSome (mBin subD (mLenB (mOwn 1)) (mVar 6)))) (mLstF (mCons (mVar 7) mNil))))
 sSkip))
noncomputable def bodyE : MS := (sIf (mAndT (mBl (mBin eqA (mVar 5) (mC (.int 1)))) (mAndT (mNeNil (mOwn 1) (mLstF mNil)) (mBl (mBin leA (mBin ixD (mIxB (mOwn 1) (mUn negD (mC (.int 1)))) (mC (.int 3))) (mC (.int 18))))))
 (sOwn 1 (mCat (mSlB (mOwn 1) oNone (oSome (mUn negD (mC (.int 1))))) (mLstF (mCons (mCallK 2 F__law_choice 1 (mCons (mVar 4) mNil)) mNil))))
 (sX (mApp 1 (mCall 1 F__law_leaf (mCons (mVar 4) mNil)))))
noncomputable def bodyL : MS := (sSeq (sSet 4 (mCall 2 F__law_mixed (mCons (mVar 3) (mCons (mVar 2) mNil))))
 (sSeq (sSet 5 (mBin modD (mVar 4) (mC (.int 5))))
 (sSeq (sSet 4 (mBin fdivD (mVar 4) (mC (.int 5))))
 (sIf (mBl (mBin eqA (mVar 5) (mC (.int 0)))) bodyR bodyE))))
theorem rec_step {S : D} {P : List Itm} {a b d e f : Sl} {n : Int} (hP : Pok P) (hl : P.length ≤ 90) (he : fre e) (hf : fre f) : ∃ P' e' f', Pok P' ∧ P'.length ≤ P.length + 1 ∧ fre e' ∧ fre f' ∧ bodyR (ls S P a b (.v (.int n)) d e f) = some (.nx (ls S P' a b (.v (.int n)) d e' f')) := by
  obtain ⟨m, i, m1, i1, as, h⟩ := record_eq (n := n) hP.ok hl
  have c1 : mCallK 2 F__law_record 1 (mCons (mVar 4) mNil) (ls S P a b (.v (.int n)) d e f) = some (.tup [.int (m : Nat), toD i]) := callK_of (l := P.map toD) rfl (cons_of (x := .int n) rfl nil_of) rfl ⟨as, h⟩ (by simp [apD, apL, itm_ap i1])
  have asg : sAsg (mCallK 2 F__law_record 1 (mCons (mVar 4) mNil)) (bdSeq 2 (bdCons (setV 6) (bdCons (setV 7) bdNil))) (ls S P a b (.v (.int n)) d e f) = some (.nx (ls S P a b (.v (.int n)) d (.v (.int (m : Nat))) (.v (toD i)))) := by
    unfold sAsg
    rw [c1, Option.bind_some, bdP (r1 := ls S P a b (.v (.int n)) d (.v (.int (m : Nat))) f) (setV_fre (x := e) rfl he) (r2 := ls S P a b (.v (.int n)) d (.v (.int (m : Nat))) (.v (toD i))) (setV_fre (x := f) rfl hf)]
    rfl
  have e7 : mVar 7 (ls S P a b (.v (.int n)) d (.v (.int (m : Nat))) (.v (toD i))) = some (toD i) := rfl
  have c2 := le_of (q_s _ _ _ e7) (con_of (d := .int 40))
  have b1 : bodyR (ls S P a b (.v (.int n)) d e f) = sIf (mBl (mBin leA (mBin ixD (mVar 7) (mC (.int 3))) (mC (.int 40)))) (sOwn 1 (mCat (mSlB (mOwn 1) oNone (oSome (mBin subD (mLenB (mOwn 1)) (mVar 6)))) (mLstF (mCons (mVar 7) mNil)))) sSkip (ls S P a b (.v (.int n)) d (.v (.int (m : Nat))) (.v (toD i))) := by
    unfold bodyR; rw [seq_of asg]
  by_cases hs : (i.s : Int) ≤ 40
  · refine ⟨P.take (P.length - m) ++ [i], .v (.int (m : Nat)), .v (toD i), Pok.app (fun j hj => hP j (List.mem_of_mem_take hj)) i1 (by omega), by rw [List.length_append, List.length_take, List.length_singleton]; omega, trivial, trivial, ?_⟩
    rw [b1, sIf_t (by rw [c2, decide_eq_true hs])]
    have e1 : mBin subD (mLenB (mOwn 1)) (mVar 6) (ls S P a b (.v (.int n)) d (.v (.int (m : Nat))) (.v (toD i))) = some (.int ((P.length - m : Nat) : Int)) := by
      refine bin_of (x := .int ((P.map toD).length : Int)) (y := .int (m : Int)) rfl rfl ?_
      rw [List.length_map]
      show some (D.int ((P.length : Int) - (m : Int))) = _
      rw [Int.natCast_sub m1]
    have e2 : mSlB (mOwn 1) oNone (oSome (mBin subD (mLenB (mOwn 1)) (mVar 6))) (ls S P a b (.v (.int n)) d (.v (.int (m : Nat))) (.v (toD i))) = some ((P.take (P.length - m)).map toD) := by
      rw [slB_of (l := P.map toD) (a := none) rfl rfl (osome_of e1), cut_to, List.map_take]
    refine own_of (l := (P.take (P.length - m) ++ [i]).map toD) ?_ rfl
    rw [cat_of e2 (lst1_of e7) (by rw [List.length_map, List.length_take, List.length_singleton]; omega), List.map_append]; rfl
  · exact ⟨P, .v (.int (m : Nat)), .v (toD i), hP, by omega, trivial, trivial, by rw [b1, sIf_f (by rw [c2, decide_eq_false hs])]; rfl⟩
theorem andT_of {f g : MB} {r : En} {a b : Bool} (e1 : f r = some a) (e2 : g r = some b) : mAndT f g r = some (a && b) := by
  unfold mAndT; rw [e1, Option.bind_some]
  cases a with
  | true => rw [if_pos rfl, e2]; rfl
  | false => rfl
theorem leaf_step {S : D} {P : List Itm} {a b d e f : Sl} {n : Int} (hP : Pok P) (hl : P.length ≤ 90) : ∃ P', Pok P' ∧ P'.length ≤ P.length + 1 ∧ sX (mApp 1 (mCall 1 F__law_leaf (mCons (mVar 4) mNil))) (ls S P a b (.v (.int n)) d e f) = some (.nx (ls S P' a b (.v (.int n)) d e f)) := by
  obtain ⟨i, i1, i2, as, h⟩ := leaf_eq (n := n)
  refine ⟨P ++ [i], hP.app i1 (by omega), by simp, ?_⟩
  have c1 : mCall 1 F__law_leaf (mCons (mVar 4) mNil) (ls S P a b (.v (.int n)) d e f) = some (toD i) := call_of (p := .v (toD i)) (cons_of (x := .int n) rfl nil_of) rfl ⟨as, h⟩
  have := app_of (i := 1) (S := P.map toD) (r := ls S P a b (.v (.int n)) d e f) rfl c1 (line (by rw [List.length_map]; omega))
  rw [sX_of this]
  show some (Fl.nx [.v S, .o (P.map toD ++ [toD i]), a, b, .v (.int n), d, e, f, .un, .un, .un, .un]) = _
  unfold ls
  rw [List.map_append]; rfl
theorem els_step {S : D} {P : List Itm} {a b e f : Sl} {n w : Int} (hP : Pok P) (hl : P.length ≤ 90) : ∃ P', Pok P' ∧ P'.length ≤ P.length + 1 ∧ bodyE (ls S P a b (.v (.int n)) (.v (.int w)) e f) = some (.nx (ls S P' a b (.v (.int n)) (.v (.int w)) e f)) := by
  have c1' : ∀ P : List Itm, mBl (mBin eqA (mVar 5) (mC (.int 1))) (ls S P a b (.v (.int n)) (.v (.int w)) e f) = some (decide (w = 1)) := fun P => eq_int rfl con_of
  rcases List.eq_nil_or_concat P with rfl | ⟨A, i0, rfl⟩
  · obtain ⟨P', p1, p2, p3⟩ := leaf_step (S := S) (a := a) (b := b) (d := .v (.int w)) (e := e) (f := f) (n := n) hP hl
    refine ⟨P', p1, p2, ?_⟩
    unfold bodyE
    rw [sIf_f, p3]
    have c2 : mNeNil (mOwn 1) (mLstF mNil) (ls S [] a b (.v (.int n)) (.v (.int w)) e f) = some false := rfl
    have c3 : mAndT (mNeNil (mOwn 1) (mLstF mNil)) (mBl (mBin leA (mBin ixD (mIxB (mOwn 1) (mUn negD (mC (.int 1)))) (mC (.int 3))) (mC (.int 18)))) (ls S [] a b (.v (.int n)) (.v (.int w)) e f) = some false := by
      unfold mAndT; rw [c2]; rfl
    rw [andT_of (c1' _) c3, Bool.and_false]
  · rw [List.concat_eq_append] at hP hl ⊢
    have c2 : mNeNil (mOwn 1) (mLstF mNil) (ls S (A ++ [i0]) a b (.v (.int n)) (.v (.int w)) e f) = some true := by
      show some (!((A ++ [i0]).map toD).isEmpty) = _
      rw [List.map_append]; simp
    have e1 : mIxB (mOwn 1) (mUn negD (mC (.int 1))) (ls S (A ++ [i0]) a b (.v (.int n)) (.v (.int w)) e f) = some (toD i0) := by
      show atI ((A ++ [i0]).map toD) (-1) = _
      rw [List.map_append]; exact at_last _ _
    have c3 := andT_of (c1' _) (andT_of c2 (le_of (q_s _ _ _ e1) (con_of (d := .int 18))))
    by_cases hc : (decide (w = 1) && (true && decide ((i0.s : Int) ≤ 18))) = true
    · have hs : i0.s ≤ 18 := by
        simp only [Bool.true_and, Bool.and_eq_true, decide_eq_true_eq] at hc
        omega
      have h0 := hP i0 (by simp)
      obtain ⟨i, i1, i2, as, h⟩ := choice_eq (A := A) (n := n) h0.1
      have hA : Pok A := fun j hj => hP j (by simp [hj])
      refine ⟨A ++ [i], hA.app i1 (by omega), by simp, ?_⟩
      unfold bodyE
      rw [sIf_t (by rw [c3, hc])]
      have k1 : mCallK 2 F__law_choice 1 (mCons (mVar 4) mNil) (ls S (A ++ [i0]) a b (.v (.int n)) (.v (.int w)) e f) = some (toD i) := callK_of (l := (A ++ [i0]).map toD) rfl (cons_of (x := .int n) rfl nil_of) rfl ⟨as, h⟩ (itm_ap i1 _)
      have e2 : mSlB (mOwn 1) oNone (oSome (mUn negD (mC (.int 1)))) (ls S (A ++ [i0]) a b (.v (.int n)) (.v (.int w)) e f) = some (A.map toD) := by
        rw [slB_of (l := (A ++ [i0]).map toD) (a := none) rfl rfl (osome_of (neg_of con_of)), List.map_append]
        exact congrArg some (cut_last _ _)
      rw [List.length_append, List.length_singleton] at hl
      refine own_of (l := (A ++ [i]).map toD) ?_ rfl
      rw [cat_of e2 (lst1_of k1) (by rw [List.length_map, List.length_singleton]; omega), List.map_append]; rfl
    · obtain ⟨P', p1, p2, p3⟩ := leaf_step (S := S) (a := a) (b := b) (d := .v (.int w)) (e := e) (f := f) (n := n) hP hl
      refine ⟨P', p1, p2, ?_⟩
      unfold bodyE
      rw [sIf_f (by rw [c3, Bool.eq_false_iff.mpr hc]), p3]
def cel (p : Int × Nat) : D := .tup [.int (p.2 : Nat), .int p.1]
theorem pile_loop {S : D} : ∀ (C : List (Int × Nat)) (P : List Itm) (a b c d e f : Sl), (∀ p ∈ C, p.2 ≤ 100) → Pok P → P.length + C.length ≤ 90 → fre a → fre b → fre c → fre d → fre e → fre f →
    ∃ P' a' b' c' d' e' f', Pok P' ∧ P'.length ≤ 90 ∧ forL (bdSeq 2 (bdCons (setV 2) (bdCons (setV 3) bdNil))) bodyL (C.map cel) (ls S P a b c d e f) = some (.nx (ls S P' a' b' c' d' e' f'))
  | [], P, a, b, c, d, e, f, _, hP, hl, _, _, _, _, _, _ => ⟨P, a, b, c, d, e, f, hP, by simpa using hl, rfl⟩
  | p :: C, P, a, b, c, d, e, f, hp, hP, hl, ha, hb, hc, hd, he, hf => by
    rw [List.length_cons] at hl
    have p1 := hp p (by simp)
    obtain ⟨n, n0, hn⟩ := mixed_eq p.1 (k := (p.2 : Nat)) (by omega) (by omega)
    have e1 : bdSeq 2 (bdCons (setV 2) (bdCons (setV 3) bdNil)) (cel p) (ls S P a b c d e f) = some (ls S P (.v (.int (p.2 : Nat))) (.v (.int p.1)) c d e f) := bdP (r1 := ls S P (.v (.int (p.2 : Nat))) b c d e f) (setV_fre (x := a) rfl ha) (setV_fre (x := b) rfl hb)
    have e2 : mCall 2 F__law_mixed (mCons (mVar 3) (mCons (mVar 2) mNil)) (ls S P (.v (.int (p.2 : Nat))) (.v (.int p.1)) c d e f) = some (.int n) := call_of (p := .v (.int n)) (cons_of (x := .int p.1) rfl (cons_of (x := .int (p.2 : Nat)) rfl nil_of)) rfl hn
    have b0 : bodyL (ls S P (.v (.int (p.2 : Nat))) (.v (.int p.1)) c d e f) = sIf (mBl (mBin eqA (mVar 5) (mC (.int 0)))) bodyR bodyE (ls S P (.v (.int (p.2 : Nat))) (.v (.int p.1)) (.v (.int (n / 5))) (.v (.int (n % 5))) e f) := by
      unfold bodyL
      rw [seq_of (sSet_of (r2 := ls S P (.v (.int (p.2 : Nat))) (.v (.int p.1)) (.v (.int n)) d e f) e2 (setV_fre (x := c) rfl hc))]
      rw [seq_of (sSet_of (r2 := ls S P (.v (.int (p.2 : Nat))) (.v (.int p.1)) (.v (.int n)) (.v (.int (n % 5))) e f) (mod_of (i := n) rfl con_of (by decide)) (setV_fre (x := d) rfl hd))]
      rw [seq_of (sSet_of (r2 := ls S P (.v (.int (p.2 : Nat))) (.v (.int p.1)) (.v (.int (n / 5))) (.v (.int (n % 5))) e f) (fdiv_of (i := n) rfl con_of (by decide)) (by rfl))]
    have c1 : mBl (mBin eqA (mVar 5) (mC (.int 0))) (ls S P (.v (.int (p.2 : Nat))) (.v (.int p.1)) (.v (.int (n / 5))) (.v (.int (n % 5))) e f) = some (decide (n % 5 = 0)) := eq_int rfl con_of
    obtain ⟨P', e', f', q1, q2, q3, q4, q5⟩ : ∃ P' e' f', Pok P' ∧ P'.length ≤ P.length + 1 ∧ fre e' ∧ fre f' ∧ bodyL (ls S P (.v (.int (p.2 : Nat))) (.v (.int p.1)) c d e f) = some (.nx (ls S P' (.v (.int (p.2 : Nat))) (.v (.int p.1)) (.v (.int (n / 5))) (.v (.int (n % 5))) e' f')) := by
      by_cases h0 : n % 5 = 0
      · obtain ⟨P', e', f', r1, r2, r3, r4, r5⟩ := rec_step (S := S) (a := .v (.int (p.2 : Nat))) (b := .v (.int p.1)) (d := .v (.int (n % 5))) (e := e) (f := f) (n := n / 5) hP (by omega) he hf
        exact ⟨P', e', f', r1, r2, r3, r4, by rw [b0, sIf_t (by rw [c1, decide_eq_true h0]), r5]⟩
      · obtain ⟨P', r1, r2, r3⟩ := els_step (S := S) (a := .v (.int (p.2 : Nat))) (b := .v (.int p.1)) (w := n % 5) (e := e) (f := f) (n := n / 5) hP (by omega)
        exact ⟨P', e, f, r1, r2, he, hf, by rw [b0, sIf_f (by rw [c1, decide_eq_false h0]), r3]⟩
    obtain ⟨P2, a2, b2, c2, d2, e2', f2, s1, s2, s3⟩ := pile_loop (S := S) C P' (.v (.int (p.2 : Nat))) (.v (.int p.1)) (.v (.int (n / 5))) (.v (.int (n % 5))) e' f' (fun q hq => hp q (by simp [hq])) q1 (by omega) trivial trivial trivial trivial q3 q4
    exact ⟨P2, a2, b2, c2, d2, e2', f2, s1, s2, by rw [List.map_cons, for_go e1 q5, s3]⟩
noncomputable def bodyT : MS := (sIf (mNotT (mTru (mCall 2 (F__law_alike RF) (mCons (mCall 2 F_read_by (mCons (mVar 8) (mCons (mVar 9) mNil))) (mCons (mVar 10) mNil)))))
 (sRet (mC (.bl false)))
 sSkip)
def bd4 : D → En → Option En := bdSeq 4 (bdCons (setV 8) (bdCons (setV 9) (bdCons (setV 10) (bdCons (setV 11) bdNil))))
theorem ask_step {i : Itm} {r : En} (h : i.ok) (hs : i.s ≤ 40) (e8 : mVar 8 r = some i.k) (e9 : mVar 9 r = some i.v) (e10 : mVar 10 r = some i.r) : bodyT r = some (.nx r) := by
  obtain ⟨as, rb⟩ := read_by_eq h (by omega)
  obtain ⟨bs, al⟩ := h.alk (by omega) RF (by show i.s ≤ 40; exact hs)
  have c1 : mCall 2 F_read_by (mCons (mVar 8) (mCons (mVar 9) mNil)) r = some i.r := call_of (p := .v i.r) (cons_of e8 (cons_of e9 nil_of)) rfl ⟨as, rb⟩
  have c2 : mCall 2 (F__law_alike RF) (mCons (mCall 2 F_read_by (mCons (mVar 8) (mCons (mVar 9) mNil))) (mCons (mVar 10) mNil)) r = some (.bl true) := call_of (p := .v (.bl true)) (cons_of c1 (cons_of e10 nil_of)) rfl ⟨bs, al⟩
  unfold bodyT
  rw [sIf_f]
  · rfl
  · unfold mNotT; rw [tru_of c2]; rfl
theorem ask_loop {S : D} {Z : List D} {y2 y3 y4 y5 y6 y7 : Sl} : ∀ (P : List Itm) (a b c d : Sl), Pok P → fre a → fre b → fre c → fre d → ∃ a' b' c' d', forL bd4 bodyT (P.map toD) [.v S, .z Z, y2, y3, y4, y5, y6, y7, a, b, c, d] = some (.nx [.v S, .z Z, y2, y3, y4, y5, y6, y7, a', b', c', d'])
  | [], a, b, c, d, _, _, _, _, _ => ⟨a, b, c, d, rfl⟩
  | i :: P, a, b, c, d, hP, ha, hb, hc, hd => by
    obtain ⟨a', b', c', d', e⟩ := ask_loop (S := S) (Z := Z) (y2 := y2) (y3 := y3) (y4 := y4) (y5 := y5) (y6 := y6) (y7 := y7) P (.v i.k) (.v i.v) (.v i.r) (.v (.int (i.s : Nat))) (fun j hj => hP j (by simp [hj])) trivial trivial trivial trivial
    refine ⟨a', b', c', d', ?_⟩
    have hi := hP i (by simp)
    have s1 : setV 8 i.k [.v S, .z Z, y2, y3, y4, y5, y6, y7, a, b, c, d] = some [.v S, .z Z, y2, y3, y4, y5, y6, y7, .v i.k, b, c, d] := setV_fre (x := a) rfl ha
    have s2 : setV 9 i.v [.v S, .z Z, y2, y3, y4, y5, y6, y7, .v i.k, b, c, d] = some [.v S, .z Z, y2, y3, y4, y5, y6, y7, .v i.k, .v i.v, c, d] := setV_fre (x := b) rfl hb
    have s3 : setV 10 i.r [.v S, .z Z, y2, y3, y4, y5, y6, y7, .v i.k, .v i.v, c, d] = some [.v S, .z Z, y2, y3, y4, y5, y6, y7, .v i.k, .v i.v, .v i.r, d] := setV_fre (x := c) rfl hc
    have s4 : setV 11 (.int (i.s : Nat)) [.v S, .z Z, y2, y3, y4, y5, y6, y7, .v i.k, .v i.v, .v i.r, d] = some [.v S, .z Z, y2, y3, y4, y5, y6, y7, .v i.k, .v i.v, .v i.r, .v (.int (i.s : Nat))] := setV_fre (x := d) rfl hd
    have b1 : bd4 (toD i) [.v S, .z Z, y2, y3, y4, y5, y6, y7, a, b, c, d] = some [.v S, .z Z, y2, y3, y4, y5, y6, y7, .v i.k, .v i.v, .v i.r, .v (.int (i.s : Nat))] := by
      show ((setV 8 i.k [.v S, .z Z, y2, y3, y4, y5, y6, y7, a, b, c, d]).bind fun z1 => (setV 9 i.v z1).bind fun z2 => (setV 10 i.r z2).bind fun z3 => (setV 11 (.int (i.s : Nat)) z3).bind fun z4 => some z4) = _
      rw [s1, Option.bind_some, s2, Option.bind_some, s3, Option.bind_some, s4]; rfl
    rw [List.map_cons, for_go b1 (ask_step hi.1 hi.2 rfl rfl rfl), e]
theorem law_math : ∀ ns : List Int, ns.length ≤ 63 → ∃ as, F_law [.v (.lst (ns.map .int))] = some (.v (.bl true), as) := by
  intro ns hn
  let S : D := .lst (ns.map .int)
  obtain ⟨P, a, b, c, d, e, f, p1, p2, p3⟩ := pile_loop (S := S) ns.zipIdx [] .un .un .un .un .un .un (fun p hp => by
    have := List.snd_lt_of_mem_zipIdx hp
    omega) (fun i hi => by simp at hi) (by simp; omega) trivial trivial trivial trivial trivial trivial
  obtain ⟨a', b', c', d', q⟩ := ask_loop (S := S) (Z := P.map toD) (y2 := a) (y3 := b) (y4 := c) (y5 := d) (y6 := e) (y7 := f) P .un .un .un .un p1 trivial trivial trivial trivial
  refine mk_rt (r' := [.v S, .o (P.map toD), a, b, c, d, e, f, a', b', c', d']) ?_
  show g_law [.v S, .un, .un, .un, .un, .un, .un, .un, .un, .un, .un, .un] = _
  unfold g_law
  rw [seq_of (r' := ls S [] .un .un .un .un .un .un) (by rfl)]
  have sl : mSl (mVar 0) oNone (oSome (mC (.int 90))) (ls S [] .un .un .un .un .un .un) = some S := by
    refine sl_of (x := S) rfl rfl (osome_of con_of) ?_
    show some (D.lst (cutL (ns.map D.int) none (some ((90 : Nat) : Int)))) = _
    rw [cut_to, List.take_of_length_le (by rw [List.length_map]; omega)]
  have f1 : sFor (bdSeq 2 (bdCons (setV 2) (bdCons (setV 3) bdNil))) (mEnum (mSl (mVar 0) oNone (oSome (mC (.int 90))))) bodyL (ls S [] .un .un .un .un .un .un) = some (.nx (ls S P a b c d e f)) := by
    unfold sFor mEnum
    rw [sl, Option.bind_some]
    show (some (enumD (ns.map D.int))).bind _ = _
    rw [Option.bind_some]
    have : enumD (ns.map D.int) = ns.zipIdx.map cel := by
      unfold enumD
      rw [List.zipIdx_map, List.map_map]; rfl
    rw [this]
    exact p3
  unfold bodyL bodyR bodyE at f1
  rw [seq_of f1]
  have f2 : sZ 1 (sFor bd4 (mZs 1) bodyT) (ls S P a b c d e f) = some (.nx [.v S, .o (P.map toD), a, b, c, d, e, f, a', b', c', d']) := by
    unfold sZ
    show (some [.v S, .z (P.map toD), a, b, c, d, e, f, .un, .un, .un, .un]).bind _ = _
    rw [Option.bind_some]
    have f3 : sFor bd4 (mZs 1) bodyT [.v S, .z (P.map toD), a, b, c, d, e, f, .un, .un, .un, .un] = some (.nx [.v S, .z (P.map toD), a, b, c, d, e, f, a', b', c', d']) := by
      unfold sFor
      show (some (P.map toD)).bind _ = _
      rw [Option.bind_some]
      exact q
    rw [f3]; rfl
  unfold bd4 bodyT at f2
  rw [seq_of f2]
  exact ret_of rfl
def DfOk (K : Fg) (n : Str) (st : Stmt) : Prop := ∃ (f : Addr) (od an : Option Addr) (sl : Array (Option Value)) (oc kV dc pm cd ct : Value), PySem.W.nsIn K mainGlobals n = some (some (.ref f)) ∧ K.lookup f = some ⟨oc, od, .func (PySem.W.fnOf n n (defArgs st) (defBody st) (defScope st) .none kV dc pm an cd ct), sl⟩ ∧ PySem.W.codeIn K cd n = true ∧ PySem.W.keepIn K (.ref f) = true
theorem dfo {K : Fg} {n : Str} {st : Stmt} {f : Addr} {od an : Option Addr} {sl : Array (Option Value)} {oc kV dc pm cd ct : Value} (a : PySem.W.nsIn K mainGlobals n = some (some (.ref f))) (l : K.lookup f = some ⟨oc, od, .func (PySem.W.fnOf n n (defArgs st) (defBody st) (defScope st) .none kV dc pm an cd ct), sl⟩) (c : PySem.W.codeIn K cd n = true) (k : PySem.W.keepIn K (.ref f) = true) : DfOk K n st := ⟨f, od, an, sl, oc, kV, dc, pm, cd, ct, a, l, c, k⟩
theorem deo {K : Fg} {h : Heap} {mg : Str → Option Value} {n : Str} {i : Nat} {ps : List Str} (X : K.In h) (G : h.Ns mainGlobals mg) (D : DfOk K n (top i)) (hb : ∀ {f : Addr} {d : FuncData}, Fun K n n (top i) f d → Binds K d ps []) : Nonempty (De K mg n i ps) := by
  obtain ⟨f, _, _, _, _, _, _, _, _, _, a, l, c, k⟩ := D
  have F := fun_mk (st := top i) l c k
  exact ⟨⟨f, _, F, PySem.W.mg_of X G a, hb F⟩⟩
theorem law_sp {K : Fg} (hm : ∀ ns : List Int, ns.length ≤ 63 → ∃ as, F_law [.v (.lst (ns.map .int))] = some (.v (.bl true), as)) (H : Hp) (a : Addr) (ns : List Int) (hl : ns.length ≤ 63) (hS : SqL K H a (ns.map V.int)) : spD K 1 F_law [.ref a] H (fun v _ => v = .bl true) (fun _ _ _ => False) := by
  have il : ∀ l : List Int, IsL K (fun _ => False) H (l.map D.int) (l.map V.int) := fun l => by
    induction l with
    | nil => exact IsL.nil
    | cons x l ih => exact .cons (by rw [Is.int_iff]) ih
  obtain ⟨as, e⟩ := hm ns hl
  refine ⟨fun _ => False, [.v (.lst (ns.map .int))], _, as, rfl, R.args (ds := [.lst (ns.map .int)]) noF (.cons (by rw [Is.lst_iff]; exact ⟨a, _, rfl, hS.imp (fun z => ⟨id, z⟩) id, il ns⟩) .nil), fun i l => ?_, e, fun v H' _ iv => by rw [Is.bl_iff] at iv; exact iv⟩
  cases i with
  | zero => exact ⟨(fun z => by cases z), (fun z => by cases z)⟩
  | succ i => exact ⟨(fun z => by cases z), (fun z => by cases z)⟩
theorem all_mk {l : PySem.W.OpenLaw} {w : World} {K : Fg} {h : Heap} {mg : Str → Option Value} {fa : Addr} (X : K.In h) (G : h.Ns mainGlobals mg) (hfa : mg "law" = some (.ref fa))
    (D0 : DfOk K "read_in" (top 2))
    (D1 : DfOk K "read_part" (top 3))
    (D2 : DfOk K "read_by" (top 1))
    (D3 : DfOk K "_law_whole" (top 5))
    (D4 : DfOk K "_law_mixed" (top 6))
    (D5 : DfOk K "_law_labels" (top 7))
    (D6 : DfOk K "_law_tail" (top 8))
    (D7 : DfOk K "_law_leaf" (top 9))
    (D8 : DfOk K "_law_record" (top 10))
    (D9 : DfOk K "_law_choice" (top 11))
    (D10 : DfOk K "_law_alike" (top 12))
    (D11 : DfOk K "law" (top 13))
    (z_all : PySem.W.nsIn K mainGlobals "all" = some none)
    (z_bool : PySem.W.nsIn K mainGlobals "bool" = some none)
    (z_enumerate : PySem.W.nsIn K mainGlobals "enumerate" = some none)
    (z_int : PySem.W.nsIn K mainGlobals "int" = some none)
    (z_isinstance : PySem.W.nsIn K mainGlobals "isinstance" = some none)
    (z_len : PySem.W.nsIn K mainGlobals "len" = some none)
    (z_min : PySem.W.nsIn K mainGlobals "min" = some none)
    (z_range : PySem.W.nsIn K mainGlobals "range" = some none)
    (z_reversed : PySem.W.nsIn K mainGlobals "reversed" = some none)
    (z_sorted : PySem.W.nsIn K mainGlobals "sorted" = some none)
    (z_str : PySem.W.nsIn K mainGlobals "str" = some none)
    (z_sum : PySem.W.nsIn K mainGlobals "sum" = some none)
    (z_tuple : PySem.W.nsIn K mainGlobals "tuple" = some none)
    (z_zip : PySem.W.nsIn K mainGlobals "zip" = some none) :
    ∃ fd : FuncData, (∀ (s : Shared) (v : Value), BindsTo s fd ⟨[v], []⟩ [("_law_script", v)]) ∧ ∀ base : Heap, K.In base → base.Ns mainGlobals mg → FnOk l.prog w K mg base CX0 42 fa fd ["_law_script"] (spD K 1 F_law) := by
  obtain ⟨f11, _, _, _, _, _, _, _, _, _, a11, l11, c11, k11⟩ := D11
  have e := hfa.symm.trans (PySem.W.mg_of X G a11)
  cases e
  have F11 := fun_mk (st := top 13) l11 c11 k11
  have b11 := F11.binds (ps := ["_law_script"]) fun _ _ _ _ _ _ us hl => match us, hl with | [_], _ => rfl
  exact ⟨_, fun s v => .of_eq rfl, fun base _ _ => ok_law ⟨Classical.choice (deo (ps := ["kind", "value"]) X G D0 fun F => F.binds (ps := ["kind", "value"]) fun _ _ _ _ _ _ us hl => match us, hl with | [_, _], _ => rfl),
    Classical.choice (deo (ps := ["kind", "value", "held"]) X G D1 fun F => F.binds (ps := ["kind", "value", "held"]) fun _ _ _ _ _ _ us hl => match us, hl with | [_, _, _], _ => rfl),
    Classical.choice (deo (ps := ["K", "W"]) X G D2 fun F => F.binds (ps := ["K", "W"]) fun _ _ _ _ _ _ us hl => match us, hl with | [_, _], _ => rfl),
    Classical.choice (deo (ps := ["_law_found"]) X G D3 fun F => F.binds (ps := ["_law_found"]) fun _ _ _ _ _ _ us hl => match us, hl with | [_], _ => rfl),
    Classical.choice (deo (ps := ["_law_cell", "_law_k"]) X G D4 fun F => F.binds (ps := ["_law_cell", "_law_k"]) fun _ _ _ _ _ _ us hl => match us, hl with | [_, _], _ => rfl),
    Classical.choice (deo (ps := ["_law_number", "_law_many"]) X G D5 fun F => F.binds (ps := ["_law_number", "_law_many"]) fun _ _ _ _ _ _ us hl => match us, hl with | [_, _], _ => rfl),
    Classical.choice (deo (ps := ["_law_number"]) X G D6 fun F => F.binds (ps := ["_law_number"]) fun _ _ _ _ _ _ us hl => match us, hl with | [_], _ => rfl),
    Classical.choice (deo (ps := ["_law_number"]) X G D7 fun F => F.binds (ps := ["_law_number"]) fun _ _ _ _ _ _ us hl => match us, hl with | [_], _ => rfl),
    Classical.choice (deo (ps := ["_law_pile", "_law_number"]) X G D8 fun F => F.binds (ps := ["_law_pile", "_law_number"]) fun _ _ _ _ _ _ us hl => match us, hl with | [_, _], _ => rfl),
    Classical.choice (deo (ps := ["_law_pile", "_law_number"]) X G D9 fun F => F.binds (ps := ["_law_pile", "_law_number"]) fun _ _ _ _ _ _ us hl => match us, hl with | [_, _], _ => rfl),
    Classical.choice (deo (ps := ["_law_found", "_law_due"]) X G D10 fun F => F.binds (ps := ["_law_found", "_law_due"]) fun _ _ _ _ _ _ us hl => match us, hl with | [_, _], _ => rfl),
    ⟨_, _, F11, PySem.W.mg_of X G a11, b11⟩, PySem.W.mg_none_of X G z_all, PySem.W.mg_none_of X G z_bool, PySem.W.mg_none_of X G z_enumerate, PySem.W.mg_none_of X G z_int, PySem.W.mg_none_of X G z_isinstance, PySem.W.mg_none_of X G z_len, PySem.W.mg_none_of X G z_min, PySem.W.mg_none_of X G z_range, PySem.W.mg_none_of X G z_reversed, PySem.W.mg_none_of X G z_sorted, PySem.W.mg_none_of X G z_str, PySem.W.mg_none_of X G z_sum, PySem.W.mg_none_of X G z_tuple, PySem.W.mg_none_of X G z_zip⟩⟩
theorem walk {l : PySem.W.OpenLaw} {q : Program} {loose : List Str} {XP : (Str → Option Value) → Heap → Prop} {YP : World → Heap → Prop} {d : DefRec} {K : Params → Fg} (hm : ∀ ns : List Int, ns.length ≤ 63 → ∃ as, F_law [.v (.lst (ns.map .int))] = some (.v (.bl true), as)) (hn : l.most = some 63) (hdf : d.params.defaults = [])
    (hY : ∀ (w : World) (h : Heap), YP w h → (K w.params).In h)
    (F : ∀ (w : World) (mg : Str → Option Value) (fa : Addr) (h : Heap), (K w.params).In h → h.Ns mainGlobals mg → mg d.name = some (.ref fa) →
      ∃ fd : FuncData, (∀ (s : Shared) (u : Value), BindsTo s fd ⟨[u], []⟩ [("_law_script", u)]) ∧ ∀ base : Heap, (K w.params).In base → base.Ns mainGlobals mg → FnOk l.prog w (K w.params) mg base CX0 42 fa fd ["_law_script"] (spD (K w.params) 1 F_law)) :
    PySem.W.WalkO q loose XP YP l.row.toRowW d [] (fun f vs => PySem.call f vs) :=
  L2.walk_ofK (n := 63) (k := 42) (x := "_law_script") (CX := CX0) (sp := fun K => spD K 1 F_law) hn (by decide) hdf ⟨rfl, by decide, by decide⟩ hY F (fun K H a ns hl _ hS => law_sp hm H a ns hl hS) fun _ _ _ _ z => z
end K55
open PyProof.Rows PySem PySem.W
set_option maxRecDepth 100000 in
set_option maxHeartbeats 0 in
theorem PySem.Challenge.cw_fieldrows_k55_read_by_holds : PySem.Challenge.rw_fieldrows_k55_read_by.Holds := by
  w_on; o_law; k_head; (case hw => w_witness2)
  k_fill
  refine K55.walk (l := PySem.Challenge.rw_fieldrows_k55_read_by) K55.law_math rfl rfl (fun w h Y => PySem.W.kIn_of Y) ?F
  case F =>
    intro w mg fa h KX G hmg
    refine' K55.all_mk KX G hmg (K55.dfo ?a0 ?l0 ?c0 ?k0) (K55.dfo ?a1 ?l1 ?c1 ?k1) (K55.dfo ?a2 ?l2 ?c2 ?k2) (K55.dfo ?a3 ?l3 ?c3 ?k3) (K55.dfo ?a4 ?l4 ?c4 ?k4) (K55.dfo ?a5 ?l5 ?c5 ?k5) (K55.dfo ?a6 ?l6 ?c6 ?k6) (K55.dfo ?a7 ?l7 ?c7 ?k7) (K55.dfo ?a8 ?l8 ?c8 ?k8) (K55.dfo ?a9 ?l9 ?c9 ?k9) (K55.dfo ?a10 ?l10 ?c10 ?k10) (K55.dfo ?a11 ?l11 ?c11 ?k11) ?z_all ?z_bool ?z_enumerate ?z_int ?z_isinstance ?z_len ?z_min ?z_range ?z_reversed ?z_sorted ?z_str ?z_sum ?z_tuple ?z_zip
    (case a0 => k_is)
    (case l0 => k_is)
    (case c0 => k_is)
    (case k0 => k_is)
    (case a1 => k_is)
    (case l1 => k_is)
    (case c1 => k_is)
    (case k1 => k_is)
    (case a2 => k_is)
    (case l2 => k_is)
    (case c2 => k_is)
    (case k2 => k_is)
    (case a3 => k_is)
    (case l3 => k_is)
    (case c3 => k_is)
    (case k3 => k_is)
    (case a4 => k_is)
    (case l4 => k_is)
    (case c4 => k_is)
    (case k4 => k_is)
    (case a5 => k_is)
    (case l5 => k_is)
    (case c5 => k_is)
    (case k5 => k_is)
    (case a6 => k_is)
    (case l6 => k_is)
    (case c6 => k_is)
    (case k6 => k_is)
    (case a7 => k_is)
    (case l7 => k_is)
    (case c7 => k_is)
    (case k7 => k_is)
    (case a8 => k_is)
    (case l8 => k_is)
    (case c8 => k_is)
    (case k8 => k_is)
    (case a9 => k_is)
    (case l9 => k_is)
    (case c9 => k_is)
    (case k9 => k_is)
    (case a10 => k_is)
    (case l10 => k_is)
    (case c10 => k_is)
    (case k10 => k_is)
    (case a11 => k_is)
    (case l11 => k_is)
    (case c11 => k_is)
    (case k11 => k_is)
    (case z_all => k_is)
    (case z_bool => k_is)
    (case z_enumerate => k_is)
    (case z_int => k_is)
    (case z_isinstance => k_is)
    (case z_len => k_is)
    (case z_min => k_is)
    (case z_range => k_is)
    (case z_reversed => k_is)
    (case z_sorted => k_is)
    (case z_str => k_is)
    (case z_sum => k_is)
    (case z_tuple => k_is)
    (case z_zip => k_is)
