import PyProof.Rows.All
import Wide.All
import OpenK.AllK
import Wide.FinOn
import PySem.Challenge.RW_fieldrows_k51_offset
import Lean
set_option Elab.async false
set_option linter.all false
set_option maxRecDepth 100000
set_option maxHeartbeats 4100000
abbrev Fg := PySem.W.Frag
namespace L2
open PySem PySem.Spec PyProof.Rows
abbrev Key := Sum Int Str
def keyIs : Key → Value → Bool
  | .inl k, v => Value.isInt k v
  | .inr x, v => Value.isStrOf x v
def keyH (w : World) : Key → Int
  | .inl k => hashInt k
  | .inr x => hashStr w x
theorem keyIs_shape : ∀ {k : Key} {v : Value}, keyIs k v = true → (∃ i t, k = Sum.inl i ∧ v = Value.int i t) ∨ (∃ x t, k = Sum.inr x ∧ v = Value.str x t)
  | .inl i, v, h => by
    obtain ⟨t, e⟩ := Value.isInt_shape (k := i) (v := v) h
    exact .inl ⟨i, t, rfl, e⟩
  | .inr x, v, h => by
    obtain ⟨t, e⟩ := Value.isStrOf_shape (x := x) (v := v) h
    exact .inr ⟨x, t, rfl, e⟩
theorem key_ll (a b : Int) : decide ((Sum.inl a : Key) = Sum.inl b) = (a == b) := by
  by_cases e : a = b
  · subst e; simp
  · have h : ¬ (Sum.inl a : Key) = Sum.inl b := fun q => e (Sum.inl.inj q)
    rw [decide_eq_false h]
    exact (beq_eq_false_iff_ne.mpr e).symm
theorem key_rr (a b : Str) : decide ((Sum.inr a : Key) = Sum.inr b) = decide (a = b) := by
  by_cases e : a = b
  · subst e; simp
  · have h : ¬ (Sum.inr a : Key) = Sum.inr b := fun q => e (Sum.inr.inj q)
    rw [decide_eq_false h, decide_eq_false e]
theorem key_lr (a : Int) (b : Str) : decide ((Sum.inl a : Key) = Sum.inr b) = false := decide_eq_false (fun q => nomatch q)
theorem key_rl (a : Str) (b : Int) : decide ((Sum.inr a : Key) = Sum.inl b) = false := decide_eq_false (fun q => nomatch q)
def mixKind (prog : Program) (w : World) : PySem.KeyKind prog w Key where
  is := keyIs
  hash := keyH w
  inj := fun v a b ha hb => by
    rcases keyIs_shape ha with ⟨i, t, rfl, rfl⟩ | ⟨x, t, rfl, rfl⟩
    · rcases keyIs_shape hb with ⟨j, u, rfl, e⟩ | ⟨y, u, rfl, e⟩
      · injection e with e1 _; rw [e1]
      · exact nomatch e
    · rcases keyIs_shape hb with ⟨j, u, rfl, e⟩ | ⟨y, u, rfl, e⟩
      · exact nomatch e
      · injection e with e1 _; rw [e1]
  byValue := fun k v h => by
    rcases keyIs_shape h with ⟨i, t, rfl, rfl⟩ | ⟨x, t, rfl, rfl⟩ <;> rfl
  pyHash := fun hv h => by
    rcases keyIs_shape hv with ⟨i, t, rfl, rfl⟩ | ⟨x, t, rfl, rfl⟩
    · exact wpAny_pyHash_int h
    · exact wpAny_pyHash_str h
  eqBool := fun hu hv h => by
    rcases keyIs_shape hu with ⟨i, t, rfl, rfl⟩ | ⟨x, t, rfl, rfl⟩
    · rcases keyIs_shape hv with ⟨j, u, rfl, rfl⟩ | ⟨y, u, rfl, rfl⟩
      · rw [key_ll] at h; exact wpAny_eqBool_int h
      · rw [key_lr] at h; exact SeqAt.EqAt.int_str i t y u _ _ _ _ h
    · rcases keyIs_shape hv with ⟨j, u, rfl, rfl⟩ | ⟨y, u, rfl, rfl⟩
      · rw [key_rl] at h; exact SeqAt.EqAt.str_int x t j u _ _ _ _ h
      · rw [key_rr] at h; exact wpAny_eqBool_str h
  «strs» := fun k x t v h => by
    rcases keyIs_shape h with ⟨i, u, rfl, e⟩ | ⟨y, u, rfl, e⟩
    · exact nomatch e
    · injection e with e1 _
      subst e1
      cases v <;> rfl
end L2
namespace L2
open PySem PySem.Spec PyProof.Rows
inductive V where
  | non | bl (b : Bool) | int (i : Int) | str (x : Str) | byt (b : Array UInt8) | flt (b : UInt64) | ref (a : Addr) | ty (n : String)
  deriving DecidableEq
def RelV : V → Value → Prop
  | .non, u => u = Value.none
  | .bl b, u => u = Value.bool b
  | .int i, u => ∃ t, u = Value.int i t
  | .str x, u => ∃ t, u = Value.str x t
  | .byt b, u => ∃ t, u = Value.bytes b t
  | .flt b, u => ∃ t, u = Value.float b t
  | .ref a, u => u = Value.ref a
  | .ty n, u => u = Value.type n
abbrev Vals : List V → List Value → Prop := Paired RelV
theorem Vals.length {xs : List V} {us : List Value} (r : Vals xs us) : xs.length = us.length := Paired.length r
theorem Vals.get : ∀ {xs : List V} {us : List Value} {i : Nat} {x : V}, Vals xs us → xs[i]? = some x → ∃ u, us[i]? = some u ∧ RelV x u
  | _, _, _, _, .nil, e => by simp at e
  | _, _, 0, _, .cons r _, e => by simp at e; subst e; exact ⟨_, rfl, r⟩
  | _, _, i + 1, x, .cons _ t, e => by
    obtain ⟨u, h1, h2⟩ := Vals.get (i := i) (x := x) t (by simpa using e)
    exact ⟨u, by simpa using h1, h2⟩
theorem Vals.append : ∀ {xs ys : List V} {us ws : List Value}, Vals xs us → Vals ys ws → Vals (xs ++ ys) (us ++ ws)
  | _, _, _, _, .nil, s => s
  | _, _, _, _, .cons r t, s => .cons r (Vals.append t s)
theorem Vals.take : ∀ {xs : List V} {us : List Value} (n : Nat), Vals xs us → Vals (xs.take n) (us.take n)
  | _, _, 0, _ => .nil
  | _, _, _ + 1, .nil => .nil
  | _, _, n + 1, .cons r t => .cons r (Vals.take n t)
theorem Vals.drop : ∀ {xs : List V} {us : List Value} (n : Nat), Vals xs us → Vals (xs.drop n) (us.drop n)
  | _, _, 0, r => r
  | _, _, _ + 1, .nil => .nil
  | _, _, n + 1, .cons _ t => Vals.drop n t
def RelO : Option V → Option Value → Prop
  | some v, some u => RelV v u
  | none, none => True
  | _, _ => False
def KV {κ : Type} : List (κ × V) → List (κ × Value) → Prop := Paired fun (p : κ × V) (q : κ × Value) => p.1 = q.1 ∧ RelV p.2 q.2
def kV : Key → V
  | .inl i => .int i
  | .inr x => .str x
inductive HO where
  | lst (xs : List V)
  | tup (xs : List V)
  | dK (kvs : List (Key × V)) | dT (kvs : List (List Key × V))
  | set (S : Int → Bool) (n : Nat)
  | ins (C dx : Addr) (fs : List (Str × V))
  | own (x : Addr)
  | xd (fs : List (Str × V))
  | met (f x : Addr)
  | rng (lo hi : Int)
  | frz (o : Obj) (u : HO)
  | tbl (ps : Array Value)
  | ext (φ : Heap → Prop)
abbrev Hp := Addr → Option HO
def upd (H : Hp) (a : Addr) (o : HO) : Hp := fun b => if b = a then some o else H b
theorem upd_same {H : Hp} {a : Addr} {o : HO} : upd H a o a = some o := by unfold upd; rw [if_pos rfl]
theorem upd_ne {H : Hp} {a b : Addr} {o : HO} (h : b ≠ a) : upd H a o b = H b := by unfold upd; rw [if_neg h]
theorem ne_of_none {H : Hp} {a b : Addr} {o : HO} (h : H a = some o) (h' : H b = none) : a ≠ b := by
  intro e; subst e; rw [h] at h'; cases h'
section
variable (P : Program) (w : World)
def ObjOk (H : Hp) (h : Heap) (a : Addr) : HO → Prop
  | .lst xs => xs.length ≤ sizeLine ∧ ∃ (its : List Value) (n : Nat), Vals xs its ∧ h.get? a = some { cls := .type "list", data := .seq its.toArray n }
  | .tup xs => xs.length ≤ sizeLine ∧ ∃ its : List Value, Vals xs its ∧ IsTup h a its.toArray
  | .dK kvs => kvs.length ≤ sizeLine ∧ (a == sysModules) = false ∧ ∃ vs, KV kvs vs ∧ h.DictOf (mixKind P w) a vs
  | .dT kvs => kvs.length ≤ sizeLine ∧ (a == sysModules) = false ∧ ∃ xs : List (List Key × Addr × Value),
      Paired (fun (p : List Key × V) (q : List Key × Addr × Value) => p.1 = q.1 ∧ H q.2.1 = some (.tup (p.1.map kV)) ∧ RelV p.2 q.2.2) kvs xs ∧
      ∃ o es ep, h.get? a = some o ∧ o.ExactDict ∧ o.data = .dict es ep ∧ es.toList = xs.map (entryOfKey (tupleKind (mixKind P w))) ∧ (xs.map (·.1)).Nodup
  | .set S n => h.SetOf (intKind P w) a S n
  | .ins C dx fs => H dx = some (.own a) ∧ fs.length ≤ 1000 ∧ dx ≠ a ∧ h.get? a = some (PySem.W.instObj C dx) ∧
      ∃ mA, h.Ns1 dx mA ∧ (∀ f, RelO (fs.lookup f) (mA f)) ∧ PySem.Within mA (fs.map (·.1))
  | .own _ => ∃ o, h.get? a = some o
  | .xd fs => ∃ mA, h.Ns1 a mA ∧ ∀ f, RelO (fs.lookup f) (mA f)
  | .rng lo hi => ∃ t u v, h.get? a = some { cls := .type "range", data := .fields #[.int lo t, .int hi u, .int 1 v] }
  | .frz o u => h.get? a = some o ∧ ObjOk H h a u
  | .tbl ps => h.get? a = some { cls := .none, data := .fields ps }
  | .met f x => h.get? a = some (PySem.W.methodObj (.ref f) (.ref x))
  | .ext φ => φ h ∧ (∃ o, h.get? a = some o) ∧ ∀ h1 h2 : Heap, φ h1 → (∀ o, h1.get? a = some o → h2.get? a = some o) → φ h2
def HOk (H : Hp) (h : Heap) : Prop := ∀ a o, H a = some o → ObjOk P w H h a o
end
section
variable {P : Program} {w : World} {H H' : Hp} {h h' : Heap} {a : Addr} {o : HO}
theorem ObjOk.lt (x : ObjOk P w H h a o) : a < h.objs.size := by
  cases o with
  | lst xs => obtain ⟨_, _, _, _, e⟩ := x; exact Heap.lt_size e
  | tup xs => obtain ⟨_, _, _, p⟩ := x; exact p.lt
  | dK kvs => obtain ⟨_, _, _, _, o, _, _, e, _⟩ := x; exact Heap.lt_size e
  | dT kvs => obtain ⟨_, _, _, _, o, _, _, e, _⟩ := x; exact Heap.lt_size e
  | set S n => obtain ⟨o, _, _, _, e, _⟩ := x; exact Heap.lt_size e
  | ins C dx fs => obtain ⟨_, _, _, e, _⟩ := x; exact Heap.lt_size e
  | own y => obtain ⟨_, e⟩ := x; exact Heap.lt_size e
  | xd fs => obtain ⟨_, ⟨_, _, _, e, _⟩, _⟩ := x; exact Heap.lt_size e
  | rng lo hi => obtain ⟨_, _, _, e⟩ := x; exact Heap.lt_size e
  | frz ob u => obtain ⟨e, _⟩ := x; exact Heap.lt_size e
  | tbl ps => exact Heap.lt_size (show h.get? a = some _ from x)
  | met f y => exact Heap.lt_size (show h.get? a = some _ from x)
  | ext φ => obtain ⟨_, ⟨_, e⟩, _⟩ := x; exact Heap.lt_size e
theorem Paired.mapP {α β : Type} {F G : α → β → Prop} : ∀ {l₁ : List α} {l₂ : List β}, Paired F l₁ l₂ → (∀ a b, F a b → G a b) → Paired G l₁ l₂
  | _, _, .nil, _ => .nil
  | _, _, .cons r t, f => .cons (f _ _ r) (Paired.mapP t f)
theorem ObjOk.stay (x : ObjOk P w H h a o) (k : ∀ b u, (b = a ∨ H b = some (.own a)) → h.get? b = some u → h'.get? b = some u)
    (ho : ∀ b, H b = some (.own a) → H' b = some (.own a)) (ht : ∀ b xs, H b = some (.tup xs) → H' b = some (.tup xs)) : ObjOk P w H' h' a o := by
  induction o with
  | lst xs => obtain ⟨z, its, n, r, e⟩ := x; exact ⟨z, its, n, r, k _ _ (.inl rfl) e⟩
  | tup xs => obtain ⟨z, its, r, ob, e, c⟩ := x; exact ⟨z, its, r, ob, k _ _ (.inl rfl) e, c⟩
  | dK kvs => obtain ⟨z, y, vs, r, ob, es, ep, e, c⟩ := x; exact ⟨z, y, vs, r, ob, es, ep, k _ _ (.inl rfl) e, c⟩
  | dT kvs =>
    obtain ⟨z, y, xs, r, ob, es, ep, e, c⟩ := x
    exact ⟨z, y, xs, Paired.mapP r fun p q z => ⟨z.1, ht _ _ z.2.1, z.2.2⟩, ob, es, ep, k _ _ (.inl rfl) e, c⟩
  | set S n => obtain ⟨ob, es, ep, t, e, c⟩ := x; exact ⟨ob, es, ep, t, k _ _ (.inl rfl) e, c⟩
  | ins C dx fs =>
    obtain ⟨d, z, ne, e, mA, ⟨od, es, ep, e2, c⟩, r⟩ := x
    exact ⟨ho _ d, z, ne, k _ _ (.inl rfl) e, mA, ⟨od, es, ep, k _ _ (.inr d) e2, c⟩, r⟩
  | own y => obtain ⟨ob, e⟩ := x; exact ⟨ob, k _ _ (.inl rfl) e⟩
  | xd fs => obtain ⟨mA, ⟨od, es, ep, e, c⟩, r⟩ := x; exact ⟨mA, ⟨od, es, ep, k _ _ (.inl rfl) e, c⟩, r⟩
  | rng lo hi => obtain ⟨t, u, v, e⟩ := x; exact ⟨t, u, v, k _ _ (.inl rfl) e⟩
  | frz ob u ih => obtain ⟨e, q⟩ := x; exact ⟨k _ _ (.inl rfl) e, ih q⟩
  | tbl ps =>
    have e : h.get? a = some { cls := .none, data := .fields ps } := x
    show h'.get? a = some { cls := .none, data := .fields ps }
    exact k a _ (.inl rfl) e
  | met f y =>
    have e : h.get? a = some (PySem.W.methodObj (.ref f) (.ref y)) := x
    show h'.get? a = some (PySem.W.methodObj (.ref f) (.ref y))
    exact k a _ (.inl rfl) e
  | ext φ => obtain ⟨p, ⟨o, e⟩, st⟩ := x; exact ⟨st _ _ p fun o q => k _ _ (.inl rfl) q, ⟨o, k _ _ (.inl rfl) e⟩, st⟩
theorem HOk.lt (x : HOk P w H h) (e : H a = some o) : a < h.objs.size := (x a o e).lt
theorem HOk.fresh (x : HOk P w H h) (e : h.objs.size ≤ a) : H a = none := by
  cases q : H a with
  | none => rfl
  | some u => exact absurd (Nat.lt_of_lt_of_le (x.lt q) e) (Nat.lt_irrefl _)
theorem HOk.kept (x : HOk P w H h) (k : ∀ b u, h.get? b = some u → h'.get? b = some u) : HOk P w H h' := fun a o e =>
  (x a o e).stay (fun b u _ q => k b u q) (fun _ q => q) fun _ _ q => q
theorem HOk.laid (x : HOk P w H h) (k : ∀ b u, h.get? b = some u → h'.get? b = some u) (hp : h.objs.size ≤ a) (new : ObjOk P w (upd H a o) h' a o) : HOk P w (upd H a o) h' := fun b u e => by
  have hn := x.fresh hp
  by_cases hb : b = a
  · subst hb; rw [upd_same] at e; cases e; exact new
  · rw [upd_ne hb] at e
    exact (x b u e).stay (fun c v _ q => k c v q) (fun c q => by rw [upd_ne (ne_of_none q hn)]; exact q) fun c xs q => by rw [upd_ne (ne_of_none q hn)]; exact q
end
def Rd (H : Hp) (a : Addr) (u : HO) : Prop := H a = some u ∨ ∃ o, H a = some (.frz o u)
theorem Rd.ok {P : Program} {w : World} {H : Hp} {h : Heap} {a : Addr} {u : HO} (r : Rd H a u) (x : HOk P w H h) : ObjOk P w H h a u := by
  rcases r with r | ⟨o, r⟩
  · exact x a u r
  · obtain ⟨_, q⟩ := x a _ r
    exact q
def Mut : Option HO → Prop
  | some (.lst _) => True
  | some (.dK _) => True
  | some (.dT _) => True
  | some (.set _ _) => True
  | some (.ins _ _ _) => True
  | some (.ext _) => True
  | _ => False
section
variable {P : Program} {w : World} {H : Hp} {h h' : Heap} {x e : Addr} {o' : HO}
theorem HOk.write (ok : HOk P w H h) (mu : Mut (H x)) (he : e = x ∨ H e = some (.own x)) (k : ∀ b u, b ≠ e → h.get? b = some u → h'.get? b = some u) (heo : ∃ u, h'.get? e = some u)
    (new : ObjOk P w (upd H x o') h' x o') : HOk P w (upd H x o') h' := fun b u q => by
  have nown : ∀ c y, H c = some (.own y) → c ≠ x := fun c y r z => by subst z; rw [r] at mu; exact mu
  have ntup : ∀ c xs, H c = some (.tup xs) → c ≠ x := fun c xs r z => by subst z; rw [r] at mu; exact mu
  by_cases hb : b = x
  · subst hb; rw [upd_same] at q; cases q; exact new
  · rw [upd_ne hb] at q
    by_cases hbe : b = e
    · have q' : H b = some (.own x) := by
        rcases he with z | z
        · exact absurd (hbe.trans z) hb
        · rw [hbe]; exact z
      rw [q] at q'; cases q'
      obtain ⟨v, hv⟩ := heo
      exact ⟨v, by rw [hbe]; exact hv⟩
    · refine (ok b u q).stay (fun c v hc r => k c v ?_ r) (fun c r => by rw [upd_ne (nown c b r)]; exact r) fun c xs r => by rw [upd_ne (ntup c xs r)]; exact r
      rcases hc with rfl | hc
      · exact hbe
      · rintro rfl
        rcases he with z | z
        · exact nown c b hc z
        · rw [hc] at z; cases z; exact hb rfl
end
structure Un (fs ex : List Addr) (H H' : Hp) (h h' : Heap) : Prop where
  keep : ∀ b o, h.get? b = some o → H b = none → b ∉ fs → b ∉ ex → h'.get? b = some o
  slot : ∀ b o, h.get? b = some o → H b = none → b ∈ fs → b ∉ ex → ∃ sl, h'.get? b = some { o with slots := sl }
  free : ∀ b o, h.get? b = some o → H b = none → b ∉ ex → H' b = none
  there : ∀ b o, h.get? b = some o → b ∉ ex → ∃ o', h'.get? b = some o'
  tups : ∀ b xs, H b = some (.tup xs) → H' b = some (.tup xs)
  frzs : ∀ b o u, H b = some (.frz o u) → H' b = some (.frz o u)
  tbls : ∀ b ps, H b = some (.tbl ps) → ∃ more, H' b = some (.tbl (ps ++ more))
section
variable {fs fs' ex ex' : List Addr} {H H1 H2 : Hp} {h h1 h2 h' : Heap} {a x e : Addr} {o : HO}
theorem Un.any (u : Un fs ex H H1 h h1) {b : Addr} {ob : Obj} (q : h.get? b = some ob) (n : H b = none) (hx : b ∉ ex) : ∃ sl, h1.get? b = some { ob with slots := sl } := by
  by_cases hb : b ∈ fs
  · exact u.slot b ob q n hb hx
  · exact ⟨ob.slots, u.keep b ob q n hb hx⟩
theorem Un.kept (k : ∀ b u, h.get? b = some u → h'.get? b = some u) : Un fs ex H H h h' :=
  ⟨fun b ob q _ _ _ => k b ob q, fun b ob q _ _ _ => ⟨ob.slots, k b ob q⟩, fun _ _ _ n _ => n, fun b ob q _ => ⟨ob, k b ob q⟩, fun _ _ q => q, fun _ _ _ q => q, fun _ ps q => ⟨#[], by rw [q]; simp⟩⟩
theorem Un.refl : Un fs ex H H h h := Un.kept fun _ _ q => q
theorem Un.laid (k : ∀ b u, h.get? b = some u → h'.get? b = some u) (hp : h.objs.size ≤ a) (hn : H a = none) : Un fs ex H (upd H a o) h h' where
  keep := fun b u q _ _ _ => k b u q
  slot := fun b u q _ _ _ => ⟨u.slots, k b u q⟩
  free := fun b u q n _ => by rw [upd_ne (Nat.ne_of_lt (Nat.lt_of_lt_of_le (Heap.lt_size q) hp))]; exact n
  there := fun b u q _ => ⟨u, k b u q⟩
  tups := fun b xs q => by rw [upd_ne (ne_of_none q hn)]; exact q
  frzs := fun b u xs q => by rw [upd_ne (ne_of_none q hn)]; exact q
  tbls := fun b ps q => ⟨#[], by rw [upd_ne (ne_of_none q hn), q]; simp⟩
theorem Un.write (mu : Mut (H x)) (he : e = x ∨ H e = some (.own x)) (k : ∀ b u, b ≠ e → h.get? b = some u → h'.get? b = some u) (heo : ∃ u, h'.get? e = some u) : Un fs ex H (upd H x o) h h' := by
  have hx : ∀ b, H b = none → b ≠ x := fun b n z => by subst z; rw [n] at mu; exact mu
  have hb : ∀ b, H b = none → b ≠ e := fun b n z => by
    subst z
    rcases he with r | r
    · exact hx b n r
    · rw [n] at r; cases r
  have hm : ∀ b u, H b = some u → ¬ Mut (some u) → b ≠ x := fun b u q nm z => by subst z; rw [q] at mu; exact nm mu
  refine ⟨fun b u q n _ _ => k b u (hb b n) q, fun b u q n _ _ => ⟨u.slots, k b u (hb b n) q⟩, fun b u q n _ => by rw [upd_ne (hx b n)]; exact n, fun b u q _ => ?_,
    fun b xs q => by rw [upd_ne (hm b _ q fun z => z)]; exact q, fun b u xs q => by rw [upd_ne (hm b _ q fun z => z)]; exact q, fun b ps q => ⟨#[], by rw [upd_ne (hm b _ q fun z => z), q]; simp⟩⟩
  by_cases hbe : b = e
  · subst hbe; exact heo
  · exact ⟨u, k b u hbe q⟩
end
def trk (h : Heap) (H : Hp) : List Addr := (List.range h.objs.size).filter fun a => (H a).isSome
def hidT (h : Heap) (H : Hp) : Heap := PySem.W.hideAll h (trk h H)
theorem hidT_size (h : Heap) (H : Hp) : (hidT h H).objs.size = h.objs.size := PySem.W.hideAll_size _ _
theorem hidT_get {h : Heap} {H : Hp} {b : Addr} {o : Obj} (e : h.get? b = some o) (n : H b = none) : (hidT h H).get? b = some o :=
  PySem.W.hideAll_get _ e fun hm => by
    have q : (H b).isSome = true := (List.mem_filter.mp hm).2
    rw [n] at q; simp at q
theorem of_hidT {h : Heap} {H : Hp} {b : Addr} {o : Obj} (e : (hidT h H).get? b = some o) : h.get? b = some o ∧ H b = none := by
  have e' : h.get? b = some o := PySem.W.of_hideAll (trk h H) e
  refine ⟨e', ?_⟩
  cases q : H b with
  | none => rfl
  | some x =>
    have hm : b ∈ trk h H := List.mem_filter.mpr ⟨List.mem_range.mpr (Heap.lt_size e'), by simp [q]⟩
    have z : (hidT h H).get? b = none := PySem.W.hideAll_none (trk h H) hm
    rw [z] at e; cases e
end L2
namespace L2
open PySem PySem.Spec PyProof.Rows
structure Mod (K : Fg) (mg : Str → Option Value) (base : Heap) : Prop where
  kin : K.In base
  glob : base.Ns mainGlobals mg
  blt : ∃ mb, base.Ns builtinsNs mb ∧ ∀ x : Str, x ≠ "__name__" → mb x = bootBuiltins x
  nolimit : base.NoLimit
structure Cx where
  prog : Program
  w : World
  K : Fg
  mg : Str → Option Value
  base : Heap
  A : Around
  N : List Str
  s₀ : Shared
  H₀ : Hp
  env : Env
  outer : List Env
  stack : List Env
  ex : List Addr
  fn : Str → Bool
  calm : Bool
  pn : List (Addr × Obj)
  xe : Value → Shared → Prop
def frs (l : List Env) : List Addr := l.filterMap (·.frame)
abbrev Cx.fs (X : Cx) : List Addr := frs X.outer
def Vis (sc : Scope) (x : Str) : Prop := sc.names.lookup x = some .local ∨ sc.names.lookup x = some .cell ∨ sc.names.lookup x = some .free
def Loc (sc : Scope) (x : Str) : Prop := sc.names.lookup x = some .local ∨ sc.names.lookup x = some .cell
def Look (env : Env) (h : Heap) (m : Str → Option Value) (x : Str) (u : Value) : Prop :=
  (env.kindOf x = some .local ∧ m x = some u) ∨ ((env.kindOf x = some .cell ∨ env.kindOf x = some .free) ∧ ∃ c, env.cells.lookup x = some c ∧ h.IsCell c (some u))
structure Cx.Ok (X : Cx) : Prop where
  mod : Mod X.K X.mg X.base
  kind : X.env.scope.kind = .function
  glob : X.env.globals = mainGlobals
  blt : X.env.builtins = builtinsNs
  above : X.s₀.heap.objs.size ≤ X.env.locals
  inj : ∀ x y c, X.env.cells.lookup x = some c → X.env.cells.lookup y = some c → x = y
  has : ∀ x, (X.env.kindOf x = some .cell ∨ X.env.kindOf x = some .free) → ∃ c, X.env.cells.lookup x = some c
  cab : ∀ x c, X.fn x = true → X.env.cells.lookup x = some c → X.s₀.heap.objs.size ≤ c
  hd : X.calm = true → X.A.handled = none
  frames : X.A.frames = some X.stack
  stk : X.stack = X.outer ∨ (X.stack = X.env :: X.outer ∧ X.env.frame = some X.env.locals)
  exf : ∀ b ∈ X.ex, b ≠ X.env.locals ∧ ∀ x c, X.env.cells.lookup x = some c → c ≠ b
  bs : ∀ b o, X.base.get? b = some o → X.s₀.heap.get? b = some o ∧ X.H₀ b = none
  bsz : X.base.objs.size ≤ X.s₀.heap.objs.size
  noex : ∀ b o, X.base.get? b = some o → b ∉ X.ex
  exfs : ∀ b ∈ X.ex, b ∉ X.fs
  funs : X.s₀.heap.FunFrames X.base X.outer
  frf : ∀ b ∈ X.fs, X.H₀ b = none
structure Inv (X : Cx) (pins : List (Addr × Obj)) (σ : List (Option V)) (H : Hp) (s : Shared) : Prop where
  ok : X.Ok
  os : s.os = X.s₀.os
  bare : AllBare s.gens
  base : Un X.fs X.ex X.H₀ H X.s₀.heap s.heap
  loc : ∃ m, s.heap.Ns X.env.locals m ∧ ∀ (i : Nat) (x : Str) (v : V), X.N[i]? = some x → σ[i]? = some (some v) → Vis X.env.scope x → ∃ u, RelV v u ∧ Look X.env s.heap m x u
  cell : ∀ x c, X.env.cells.lookup x = some c → ∃ v, s.heap.IsCell c v
  free : H X.env.locals = none
  freeC : ∀ x c, X.env.cells.lookup x = some c → H c = none
  pin : ∀ p ∈ X.pn ++ pins, s.heap.get? p.1 = some p.2 ∧ H p.1 = none ∧ p.1 ≠ X.env.locals ∧ p.1 ∉ X.fs ∧ ∀ v, p.2.data ≠ .cell v
  hok : HOk X.prog X.w H s.heap
  len : σ.length = X.N.length
section
variable {X : Cx} {pins : List (Addr × Obj)} {σ : List (Option V)} {H H' : Hp} {s : Shared} {h' : Heap}
theorem Cx.Ok.nofr (ok : X.Ok) {b : Addr} {o : Obj} (e : X.base.get? b = some o) : b ∉ X.fs := fun hb => by
  have := (ok.funs.mem hb).1
  rw [e] at this; cases this
theorem Inv.bs (I : Inv X pins σ H s) : ∀ b o, X.base.get? b = some o → s.heap.get? b = some o ∧ H b = none := fun b o e =>
  ⟨I.base.keep b o (I.ok.bs b o e).1 (I.ok.bs b o e).2 (I.ok.nofr e) (I.ok.noex b o e), I.base.free b o (I.ok.bs b o e).1 (I.ok.bs b o e).2 (I.ok.noex b o e)⟩
theorem Inv.bk (I : Inv X pins σ H s) : ∀ b o, X.base.get? b = some o → s.heap.get? b = some o := fun b o e => (I.bs b o e).1
theorem Inv.mod (I : Inv X pins σ H s) : Mod X.K X.mg X.base := I.ok.mod
theorem Inv.kIn (I : Inv X pins σ H s) : X.K.In s.heap := I.ok.mod.kin.keeps I.bk
theorem Inv.lt (I : Inv X pins σ H s) : X.env.locals < s.heap.objs.size := let ⟨_, hn, _⟩ := I.loc; hn.lt
theorem Inv.sz (I : Inv X pins σ H s) : X.s₀.heap.objs.size ≤ s.heap.objs.size := Nat.le_trans I.ok.above (Nat.le_of_lt I.lt)
theorem Inv.nofs (I : Inv X pins σ H s) {a : Addr} (h : s.heap.objs.size ≤ a) : a ∉ X.fs := fun hb => by
  obtain ⟨_, o, ho, _⟩ := I.ok.funs.mem hb
  exact absurd (Nat.lt_of_lt_of_le (Heap.lt_size ho) (Nat.le_trans I.sz h)) (Nat.lt_irrefl _)
theorem Inv.cne (I : Inv X pins σ H s) : ∀ x c, X.env.cells.lookup x = some c → c ≠ X.env.locals := fun x c e z => by
  obtain ⟨v, o, ho, hd⟩ := I.cell x c e
  obtain ⟨m, ⟨o', es, ep, ho', hd', _⟩, _⟩ := I.loc
  rw [z, ho'] at ho; cases ho; rw [hd'] at hd; cases hd
theorem Inv.funs (I : Inv X pins σ H s) : s.heap.FunFrames X.base X.outer := by
  have all : ∀ (l : List Env), (∀ b ∈ frs l, b ∈ X.fs) → X.s₀.heap.FunFrames X.base l → s.heap.FunFrames X.base l := by
    intro l
    induction l with
    | nil => intro _ _; trivial
    | cons env r ih =>
      intro hs hl
      obtain ⟨hk, ⟨L, o, hf, hn, ho, hd⟩, hr⟩ := hl
      have hL : L ∈ X.fs := hs L (by unfold frs; rw [List.filterMap_cons, hf]; exact List.mem_cons_self)
      obtain ⟨sl, e⟩ := I.base.slot L o ho (I.ok.frf L hL) hL fun z => I.ok.exfs L z hL
      exact ⟨hk, ⟨L, _, hf, hn, e, hd⟩, ih (fun b hb => hs b (by unfold frs; rw [List.filterMap_cons, hf]; exact List.mem_cons_of_mem _ hb)) hr⟩
  exact all X.outer (fun _ hb => hb) I.ok.funs
theorem Inv.stack (I : Inv X pins σ H s) : s.heap.FunFrames X.base X.stack := by
  rcases I.ok.stk with e | ⟨e, hf⟩
  · rw [e]; exact I.funs
  · rw [e]
    obtain ⟨m, hn, _⟩ := I.loc
    refine .cons (by rw [I.ok.kind]; decide) hf hn ?_ I.funs
    exact Heap.get?_none_of_le (Nat.le_trans I.ok.bsz I.ok.above)
theorem Inv.stkSub (I : Inv X pins σ H s) : ∀ b ∈ frs X.stack, b ∈ X.env.locals :: X.fs := fun b hb => by
  rcases I.ok.stk with e | ⟨e, hf⟩
  · rw [e] at hb; exact List.mem_cons_of_mem _ hb
  · rw [e] at hb
    unfold frs at hb
    rw [List.filterMap_cons, hf] at hb
    exact hb
theorem Inv.stkFree (I : Inv X pins σ H s) : ∀ b ∈ frs X.stack, H b = none := fun b hb => by
  rcases List.mem_cons.mp (I.stkSub b hb) with e | hb
  · rw [e]; exact I.free
  · obtain ⟨_, o, ho, _⟩ := I.ok.funs.mem hb
    exact I.base.free b o ho (I.ok.frf b hb) fun z => I.ok.exfs b z hb
theorem Inv.step {g' : Array GenState} {t' : Nat} {d' : Drawn} {ch : List Addr} (I : Inv X pins σ H s)
    (hch : ∀ b ∈ ch, (b ∈ X.ex ∨ X.s₀.heap.objs.size ≤ b) ∧ b ≠ X.env.locals ∧ (∀ x c, X.env.cells.lookup x = some c → c ≠ b) ∧ ∀ p ∈ X.pn ++ pins, p.1 ≠ b)
    (keep : ∀ b o, b ≠ X.env.locals → b ∉ X.fs → b ∉ ch → s.heap.get? b = some o → H b = none → h'.get? b = some o)
    (slot : ∀ b o, b ≠ X.env.locals → b ∈ X.fs → b ∉ ch → s.heap.get? b = some o → H b = none → ∃ sl, h'.get? b = some { o with slots := sl }) (free : ∀ b o, b ∉ ch → s.heap.get? b = some o → H b = none → H' b = none)
    (there : ∀ b o, b ∉ ch → s.heap.get? b = some o → ∃ o', h'.get? b = some o')
    (tups : ∀ b xs, H b = some (.tup xs) → H' b = some (.tup xs)) (frzs : ∀ b o u, H b = some (.frz o u) → H' b = some (.frz o u)) (tbls : ∀ b ps, H b = some (.tbl ps) → ∃ more, H' b = some (.tbl (ps ++ more)))
    (ns : ∀ m, s.heap.Ns X.env.locals m → h'.Ns X.env.locals m) (hok : HOk X.prog X.w H' h') (hg : AllBare g') :
    Inv X pins σ H' { s with heap := h', gens := g', drawn := d', toks := t' } := by
  have neL : ∀ b o, X.s₀.heap.get? b = some o → b ≠ X.env.locals := fun b o e => Nat.ne_of_lt (Nat.lt_of_lt_of_le (Heap.lt_size e) I.ok.above)
  have neC : ∀ b o, X.s₀.heap.get? b = some o → b ∉ X.ex → b ∉ ch := fun b o e hx hb => by
    rcases (hch b hb).1 with z | z
    · exact hx z
    · exact absurd (Nat.lt_of_lt_of_le (Heap.lt_size e) z) (Nat.lt_irrefl _)
  have cellK : ∀ x c, X.env.cells.lookup x = some c → ∀ v, s.heap.IsCell c v → h'.IsCell c v := fun x c e v ⟨o, ho, hd⟩ => by
    have nch : c ∉ ch := fun z => (hch c z).2.2.1 x c e rfl
    by_cases hc : c ∈ X.fs
    · obtain ⟨sl, q⟩ := slot c o (I.cne x c e) hc nch ho (I.freeC x c e)
      exact ⟨_, q, hd⟩
    · exact ⟨o, keep c o (I.cne x c e) hc nch ho (I.freeC x c e), hd⟩
  refine ⟨I.ok, I.os, hg, ⟨fun b o e n hb hx => ?_, fun b o e n hb hx => ?_, fun b o e n hx => ?_, fun b o e hx => ?_, fun b xs e => tups b xs (I.base.tups b xs e), fun b o xs e => frzs b o xs (I.base.frzs b o xs e), fun b ps e => ?_⟩, ?_, fun x c e => ?_, ?_, fun x c e => ?_, fun p hp => ?_, hok, I.len⟩
  · exact keep b o (neL b o e) hb (neC b o e hx) (I.base.keep b o e n hb hx) (I.base.free b o e n hx)
  · obtain ⟨sl, e1⟩ := I.base.slot b o e n hb hx
    obtain ⟨sl', e2⟩ := slot b _ (neL b o e) hb (neC b o e hx) e1 (I.base.free b o e n hx)
    exact ⟨sl', e2⟩
  · obtain ⟨o', e1⟩ := I.base.there b o e hx
    exact free b o' (neC b o e hx) e1 (I.base.free b o e n hx)
  · obtain ⟨o', e1⟩ := I.base.there b o e hx
    exact there b o' (neC b o e hx) e1
  · obtain ⟨m1, e1⟩ := I.base.tbls b ps e
    obtain ⟨m2, e2⟩ := tbls b _ e1
    exact ⟨m1 ++ m2, by rw [e2, Array.append_assoc]⟩
  · obtain ⟨m, hn, hl⟩ := I.loc
    refine ⟨m, ns m hn, fun i x v e1 e2 e3 => ?_⟩
    obtain ⟨u, r, l⟩ := hl i x v e1 e2 e3
    refine ⟨u, r, ?_⟩
    rcases l with l | ⟨k, c, e, z⟩
    · exact .inl l
    · exact .inr ⟨k, c, e, cellK x c e _ z⟩
  · obtain ⟨v, z⟩ := I.cell x c e
    exact ⟨v, cellK x c e v z⟩
  · obtain ⟨m, ⟨o, _, _, ho, _⟩, _⟩ := I.loc
    exact free _ o (fun z => (hch _ z).2.1 rfl) ho I.free
  · obtain ⟨v, o, ho, hd⟩ := I.cell x c e
    exact free c o (fun z => (hch c z).2.2.1 x c e rfl) ho (I.freeC x c e)
  · obtain ⟨e, n, ne, nf, d⟩ := I.pin p hp
    have nch : p.1 ∉ ch := fun z => (hch p.1 z).2.2.2 p hp rfl
    exact ⟨keep p.1 p.2 ne nf nch e n, free p.1 p.2 nch e n, ne, nf, d⟩
theorem Inv.un {t' : Nat} (I : Inv X pins σ H s) (u : Un X.fs [] H H' s.heap h') (hok : HOk X.prog X.w H' h') : Inv X pins σ H' { s with heap := h', toks := t' } := by
  obtain ⟨m, ⟨o, es, ep, ho, r⟩, _⟩ := id I.loc
  obtain ⟨sl, hL⟩ := u.any ho I.free (by simp)
  exact I.step (g' := s.gens) (d' := s.drawn) (ch := []) (fun _ z => nomatch z) (fun b o _ hb _ e n => u.keep b o e n hb (by simp)) (fun b o _ hb _ e n => u.slot b o e n hb (by simp)) (fun b o _ e n => u.free b o e n (by simp)) (fun b o _ e => u.there b o e (by simp)) u.tups u.frzs u.tbls (fun m' hm => by
    obtain ⟨o', es', ep', ho', r'⟩ := hm
    rw [ho] at ho'; cases ho'
    exact ⟨_, es', ep', hL, r'⟩) hok I.bare
theorem Inv.call {g' : Array GenState} {t' : Nat} {d' : Drawn} {ch : List Addr} (I : Inv X pins σ H s) (u : Un (frs X.stack) ch H H' s.heap h') (hok : HOk X.prog X.w H' h') (hg : AllBare g')
    (hch : ∀ b ∈ ch, (b ∈ X.ex ∨ X.s₀.heap.objs.size ≤ b) ∧ b ≠ X.env.locals ∧ (∀ x c, X.env.cells.lookup x = some c → c ≠ b) ∧ ∀ p ∈ X.pn ++ pins, p.1 ≠ b) :
    Inv X pins σ H' { s with heap := h', gens := g', drawn := d', toks := t' } := by
  obtain ⟨m, ⟨o, es, ep, ho, r⟩, _⟩ := id I.loc
  obtain ⟨sl, hL⟩ := u.any ho I.free fun z => (hch _ z).2.1 rfl
  exact I.step (ch := ch) hch (fun b o hL hb hc e n => u.keep b o e n (fun z => (List.mem_cons.mp (I.stkSub b z)).elim hL hb) hc) (fun b o _ _ hc e n => u.any e n hc) (fun b o hc e n => u.free b o e n hc) (fun b o hc e => u.there b o e hc) u.tups u.frzs u.tbls (fun m' hm => by
    obtain ⟨o', es', ep', ho', r'⟩ := hm
    rw [ho] at ho'; cases ho'
    exact ⟨_, es', ep', hL, r'⟩) hok hg
theorem Inv.turned {t' : Nat} {it : Addr} (I : Inv X pins σ H s) (k : ∀ b o, b ≠ it → s.heap.get? b = some o → h'.get? b = some o) (hn : H it = none) (hL : it ≠ X.env.locals)
    (h1 : it ∈ X.ex ∨ X.s₀.heap.objs.size ≤ it) (h2 : ∀ x c, X.env.cells.lookup x = some c → c ≠ it) (h3 : ∀ p ∈ X.pn ++ pins, p.1 ≠ it) : Inv X pins σ H { s with heap := h', toks := t' } := by
  have nit : ∀ b u, H b = some u → b ≠ it := fun b u e z => by rw [z, hn] at e; cases e
  refine I.step (g' := s.gens) (d' := s.drawn) (ch := [it]) (fun b hb => ?_) (fun b o _ _ hc e _ => k b o (fun z => hc (by simp [z])) e) (fun b o _ _ hc e _ => ⟨o.slots, k b o (fun z => hc (by simp [z])) e⟩) (fun _ _ _ _ n => n)
    (fun b o hc e => ⟨o, k b o (fun z => hc (by simp [z])) e⟩) (fun _ _ e => e) (fun _ _ _ e => e) (fun b ps e => ⟨#[], by rw [e]; simp⟩) (fun m hm => ?_) (fun b u e => ?_) I.bare
  · have e : b = it := by simpa using hb
    subst e
    exact ⟨h1, hL, h2, h3⟩
  · obtain ⟨o, es, ep, ho, r⟩ := hm
    exact ⟨o, es, ep, k _ o (Ne.symm hL) ho, r⟩
  · refine (I.hok b u e).stay (fun c v hc q => k c v ?_ q) (fun _ q => q) fun _ _ q => q
    rcases hc with z | z
    · rw [z]; exact nit b u e
    · exact nit c _ z
theorem Inv.tok (I : Inv X pins σ H s) (t : Nat) : Inv X pins σ H { s with toks := t } := I.un (h' := s.heap) (t' := t) Un.refl I.hok
theorem Inv.kept {t' : Nat} (I : Inv X pins σ H s) (k : ∀ b u, s.heap.get? b = some u → h'.get? b = some u) : Inv X pins σ H { s with heap := h', toks := t' } := I.un (Un.kept k) (I.hok.kept k)
theorem Inv.laid {a : Addr} {o : HO} {t' : Nat} (I : Inv X pins σ H s) (k : ∀ b u, s.heap.get? b = some u → h'.get? b = some u) (hp : s.heap.objs.size ≤ a) (new : ObjOk X.prog X.w (upd H a o) h' a o) :
    Inv X pins σ (upd H a o) { s with heap := h', toks := t' } := I.un (Un.laid k hp (I.hok.fresh hp)) (I.hok.laid k hp new)
theorem Inv.write {x e : Addr} {o : HO} {t' : Nat} (I : Inv X pins σ H s) (mu : Mut (H x)) (he : e = x ∨ H e = some (.own x)) (k : ∀ b u, b ≠ e → s.heap.get? b = some u → h'.get? b = some u) (heo : ∃ u, h'.get? e = some u)
    (new : ObjOk X.prog X.w (upd H x o) h' x o) : Inv X pins σ (upd H x o) { s with heap := h', toks := t' } := I.un (Un.write mu he k heo) (I.hok.write mu he k heo new)
theorem Inv.pins_of {pins' : List (Addr × Obj)} (I : Inv X pins σ H s) (h : ∀ p ∈ pins', s.heap.get? p.1 = some p.2 ∧ H p.1 = none ∧ p.1 ≠ X.env.locals ∧ p.1 ∉ X.fs ∧ ∀ v, p.2.data ≠ .cell v) : Inv X pins' σ H s :=
  ⟨I.ok, I.os, I.bare, I.base, I.loc, I.cell, I.free, I.freeC, fun p hp => (List.mem_append.mp hp).elim (fun z => I.pin p (List.mem_append_left _ z)) (h p), I.hok, I.len⟩
theorem nodup_ix {N : List Str} (hN : N.Nodup) {i j : Nat} {x : Str} (a : N[i]? = some x) (b : N[j]? = some x) : i = j := by
  obtain ⟨h1, e1⟩ := List.getElem?_eq_some_iff.mp a
  obtain ⟨h2, e2⟩ := List.getElem?_eq_some_iff.mp b
  exact (List.getElem_inj hN).mp (e1.trans e2.symm)
theorem store_ok2 {M : Model} {A : Around} {E : Value → Shared → Prop} {i : Nat} {x : Str} {v : V} {u : Value} {Q : Unit → Shared → Prop} (I : Inv X pins σ H s) (hN : X.N.Nodup) (hi : X.N[i]? = some x) (hx : Loc X.env.scope x) (r : RelV v u)
    (h : ∀ s', Inv X pins (σ.set i (some v)) H s' → (∃ a, Heap.SameBut a s.heap s'.heap ∧ (a = X.env.locals ∨ X.env.cells.lookup x = some a)) → Q () s') (hf : X.fn x = true ∨ X.env.scope.names.lookup x = some .local := by first | exact .inl rfl | exact .inr rfl | assumption) : wpAny M A (storeName X.env x u) Q E s := by
  obtain ⟨m, hn, hl⟩ := id I.loc
  have hcls : (X.env.scope.kind == .class || (X.env.scope.kind == .module && X.env.locals != X.env.globals)) = false := by rw [I.ok.kind]; rfl
  have hiσ : i < σ.length := by rw [I.len]; exact (List.getElem?_eq_some_iff.mp hi).1
  have cne := I.cne
  have tracked : ∀ {a : Addr} {h' : Heap}, (∃ o, s.heap.get? a = some o ∧ H a = none) → Heap.SameBut a s.heap h' → HOk X.prog X.w H h' := fun {a h'} ha hs b ob e => by
    obtain ⟨_, _, hfree⟩ := ha
    refine (I.hok b ob e).stay (fun c w' hc q => (hs.2 c ?_).trans q) (fun _ q => q) fun _ _ q => q
    rintro rfl
    rcases hc with rfl | hc
    · rw [hfree] at e; cases e
    · rw [hfree] at hc; cases hc
  rcases hx with hk | hk
  · refine wpAny_storeName_local hk hn (fun h' hn' hs => ?_) hcls
    obtain ⟨oL, _, _, hoL, _⟩ := id hn
    refine h _ ⟨I.ok, I.os, I.bare, ⟨fun b o e n hb hx => ?_, fun b o e n hb hx => ?_, I.base.free, fun b o e hx => ?_, I.base.tups, I.base.frzs, I.base.tbls⟩, ⟨_, hn', fun j y v' e1 e2 e3 => ?_⟩, fun y c e => ?_, I.free, I.freeC, fun p hp => ?_, tracked ⟨oL, hoL, I.free⟩ hs, by simpa using I.len⟩ ⟨_, hs, .inl rfl⟩
    · exact (hs.2 b (Nat.ne_of_lt (Nat.lt_of_lt_of_le (Heap.lt_size e) I.ok.above))).trans (I.base.keep b o e n hb hx)
    · obtain ⟨sl, e1⟩ := I.base.slot b o e n hb hx
      exact ⟨sl, (hs.2 b (Nat.ne_of_lt (Nat.lt_of_lt_of_le (Heap.lt_size e) I.ok.above))).trans e1⟩
    · obtain ⟨o', e1⟩ := I.base.there b o e hx
      exact ⟨o', (hs.2 b (Nat.ne_of_lt (Nat.lt_of_lt_of_le (Heap.lt_size e) I.ok.above))).trans e1⟩
    · by_cases hj : j = i
      · subst hj
        rw [hi] at e1; cases e1
        rw [List.getElem?_set_self hiσ] at e2
        cases e2
        exact ⟨u, r, .inl ⟨hk, by simp⟩⟩
      · rw [List.getElem?_set_ne (Ne.symm hj)] at e2
        obtain ⟨u', r', q⟩ := hl j y v' e1 e2 e3
        refine ⟨u', r', ?_⟩
        rcases q with ⟨k, e⟩ | ⟨k, c, e, z⟩
        · refine .inl ⟨k, ?_⟩
          have : y ≠ x := fun e => hj (nodup_ix hN e1 (e ▸ hi))
          simp [this, e]
        · exact .inr ⟨k, c, e, z.sameBut hs (cne y c e)⟩
    · obtain ⟨w', z⟩ := I.cell y c e
      exact ⟨w', z.sameBut hs (cne y c e)⟩
    · obtain ⟨e, n, ne, nf, d⟩ := I.pin p hp
      exact ⟨(hs.2 p.1 ne).trans e, n, ne, nf, d⟩
  · have hfn : X.fn x = true := by
      rcases hf with z | z
      · exact z
      · rw [z] at hk; cases hk
    obtain ⟨c, hc⟩ := I.ok.has x (.inl hk)
    obtain ⟨w', z⟩ := I.cell x c hc
    refine wpAny_storeName_cell I.ok.kind hk hc z (fun h' hc' hs => ?_)
    obtain ⟨oc, hoc, hocd⟩ := id z
    refine h { s with heap := h' } ⟨I.ok, I.os, I.bare, ⟨fun b o e n hb hx => ?_, fun b o e n hb hx => ?_, I.base.free, fun b o e hx => ?_, I.base.tups, I.base.frzs, I.base.tbls⟩, ⟨m, hn.sameBut hs (Ne.symm (cne x c hc)), fun j y v' e1 e2 e3 => ?_⟩, fun y c' e => ?_, I.free, I.freeC, fun p hp => ?_, tracked ⟨oc, hoc, I.freeC x c hc⟩ hs, by simpa using I.len⟩ ⟨c, hs, .inr hc⟩
    · exact (hs.2 b (Nat.ne_of_lt (Nat.lt_of_lt_of_le (Heap.lt_size e) (I.ok.cab x c hfn hc)))).trans (I.base.keep b o e n hb hx)
    · obtain ⟨sl, e1⟩ := I.base.slot b o e n hb hx
      exact ⟨sl, (hs.2 b (Nat.ne_of_lt (Nat.lt_of_lt_of_le (Heap.lt_size e) (I.ok.cab x c hfn hc)))).trans e1⟩
    · obtain ⟨o', e1⟩ := I.base.there b o e hx
      exact ⟨o', (hs.2 b (Nat.ne_of_lt (Nat.lt_of_lt_of_le (Heap.lt_size e) (I.ok.cab x c hfn hc)))).trans e1⟩
    · by_cases hj : j = i
      · subst hj
        rw [hi] at e1; cases e1
        rw [List.getElem?_set_self hiσ] at e2
        cases e2
        exact ⟨u, r, .inr ⟨.inl hk, c, hc, hc'⟩⟩
      · rw [List.getElem?_set_ne (Ne.symm hj)] at e2
        obtain ⟨u', r', q⟩ := hl j y v' e1 e2 e3
        refine ⟨u', r', ?_⟩
        rcases q with q | ⟨k, c', e, z'⟩
        · exact .inl q
        · refine .inr ⟨k, c', e, z'.sameBut hs ?_⟩
          rintro rfl
          exact hj (nodup_ix hN e1 (I.ok.inj _ _ _ e hc ▸ hi))
    · by_cases hcc : c' = c
      · subst hcc; exact ⟨_, hc'⟩
      · obtain ⟨w2, z2⟩ := I.cell y c' e
        exact ⟨w2, z2.sameBut hs hcc⟩
    · obtain ⟨e, n, ne, nf, d⟩ := I.pin p hp
      refine ⟨(hs.2 p.1 ?_).trans e, n, ne, nf, d⟩
      intro q
      rw [q, hoc] at e
      have q' : oc = p.2 := Option.some.inj e
      exact d w' (by rw [← q']; exact hocd)
theorem store_ok {M : Model} {A : Around} {E : Value → Shared → Prop} {i : Nat} {x : Str} {v : V} {u : Value} {Q : Unit → Shared → Prop} (I : Inv X pins σ H s) (hN : X.N.Nodup) (hi : X.N[i]? = some x) (hx : Loc X.env.scope x) (r : RelV v u)
    (h : ∀ s', Inv X pins (σ.set i (some v)) H s' → Q () s') (hf : X.fn x = true ∨ X.env.scope.names.lookup x = some .local := by first | exact .inl rfl | exact .inr rfl | assumption) : wpAny M A (storeName X.env x u) Q E s :=
  store_ok2 I hN hi hx r (fun s' I' _ => h s' I') hf
theorem Inv.call' {s' : Shared} {ch : List Addr} (I : Inv X pins σ H s) (ho : s'.os = s.os) (u : Un (frs X.stack) ch H H' s.heap s'.heap) (hok : HOk X.prog X.w H' s'.heap) (hg : AllBare s'.gens)
    (hch : ∀ b ∈ ch, (b ∈ X.ex ∨ X.s₀.heap.objs.size ≤ b) ∧ b ≠ X.env.locals ∧ (∀ x c, X.env.cells.lookup x = some c → c ≠ b) ∧ ∀ p ∈ X.pn ++ pins, p.1 ≠ b) : Inv X pins σ H' s' := by
  obtain ⟨h', g', d', t', o'⟩ := s'
  have e : o' = s.os := ho
  subst e
  exact I.call (g' := g') (t' := t') (d' := d') u hok hg hch
end
abbrev XK := Value → Option Addr → Hp → Prop
abbrev St := List (Option V)
abbrev VK := V → Hp → Prop
abbrev TE := St → Hp → VK → Prop
abbrev TT := St → Hp → (Bool → Hp → Prop) → Prop
abbrev TA := St → Hp → (List V → Hp → Prop) → Prop
structure Ends where
  nx : St → Hp → Prop
  rt : VK
  bk : St → Hp → Prop := fun _ _ => False
  ct : St → Hp → Prop := fun _ _ => False
abbrev TS := Ends → St → Hp → Prop
def EP (X : Cx) (pins : List (Addr × Obj)) (σ : St) (Q : VK) (u : Value) (s' : Shared) : Prop := ∃ v H', Inv X pins σ H' s' ∧ RelV v u ∧ Q v H'
def TP (X : Cx) (pins : List (Addr × Obj)) (σ : St) (Q : Bool → Hp → Prop) (b : Bool) (s' : Shared) : Prop := ∃ H', Inv X pins σ H' s' ∧ Q b H'
def AP (X : Cx) (pins : List (Addr × Obj)) (σ : St) (Q : List V → Hp → Prop) (us : List Value) (s' : Shared) : Prop := ∃ vs H', Inv X pins σ H' s' ∧ Vals vs us ∧ Q vs H'
def SP (X : Cx) (pins : List (Addr × Obj)) (D : Ends) (f : Flow) (s' : Shared) : Prop :=
  match f with
  | .next => ∃ σ' H', Inv X pins σ' H' s' ∧ D.nx σ' H'
  | .brk => ∃ σ' H', Inv X pins σ' H' s' ∧ D.bk σ' H'
  | .cont => ∃ σ' H', Inv X pins σ' H' s' ∧ D.ct σ' H'
  | .ret u => ∃ v σ' H', Inv X pins σ' H' s' ∧ RelV v u ∧ D.rt v H'
def PE (X : Cx) (e : Expr) (t : TE) : Prop :=
  ∀ (pins : List (Addr × Obj)) (s : Shared) (σ : St) (H : Hp) (Q : VK), Inv X pins σ H s → t σ H Q → wpAny (model X.prog X.w) X.A (eval e X.env) (EP X pins σ Q) X.xe s
def PT (X : Cx) (e : Expr) (t : TT) : Prop :=
  ∀ (pins : List (Addr × Obj)) (s : Shared) (σ : St) (H : Hp) (Q : Bool → Hp → Prop), Inv X pins σ H s → t σ H Q → wpAny (model X.prog X.w) X.A (isTrue e X.env (eval e X.env)) (TP X pins σ Q) X.xe s
def PW (X : Cx) (e : Expr) (t : TT) : Prop :=
  ∀ (whole : Sem Value) (pins : List (Addr × Obj)) (s : Shared) (σ : St) (H : Hp) (Q : Bool → Hp → Prop), Inv X pins σ H s → t σ H Q → wpAny (model X.prog X.w) X.A (isTrue e X.env whole) (TP X pins σ Q) X.xe s
theorem PW.pt {X : Cx} {e : Expr} {t : TT} (h : PW X e t) : PT X e t := h _
def PA (X : Cx) (es : List Expr) (t : TA) : Prop :=
  ∀ (pos : Pos) (pins : List (Addr × Obj)) (s : Shared) (σ : St) (H : Hp) (Q : List V → Hp → Prop), Inv X pins σ H s → t σ H Q → wpAny (model X.prog X.w) X.A (spliced (backTo pos (starEach es X.env))) (AP X pins σ Q) X.xe s
def PS (X : Cx) (st : Stmt) (t : TS) : Prop :=
  ∀ (pins : List (Addr × Obj)) (s : Shared) (σ : St) (H : Hp) (D : Ends), Inv X pins σ H s → t D σ H → wpAny (model X.prog X.w) X.A (exec st X.env) (SP X pins D) X.xe s
def PSs (X : Cx) (st : List Stmt) (t : TS) : Prop :=
  ∀ (pins : List (Addr × Obj)) (s : Shared) (σ : St) (H : Hp) (D : Ends), Inv X pins σ H s → t D σ H → wpAny (model X.prog X.w) X.A (execs st X.env) (SP X pins D) X.xe s
theorem thn {α : Type} {t : Sem α} {Q Q' : α → Shared → Prop} {M : Model} {A : Around} {E : Value → Shared → Prop} {s : Shared} (h : wpAny M A t Q E s) (hQ : ∀ a s, Q a s → Q' a s) : wpAny M A t Q' E s := wpAny_mono h hQ fun _ _ x => x
end L2
namespace L2
open PySem PySem.Spec PyProof.Rows
section
variable {X : Cx}
def tVar (i : Nat) : TE := fun σ H Q => ∃ v, σ[i]? = some (some v) ∧ Q v H
def tC (v : V) : TE := fun _ H Q => Q v H
theorem pe_var {i : Nat} {x : Str} {pos : Pos} (hN : X.N[i]? = some x) (hv : Vis X.env.scope x) (hd : (x == ("__debug__" : Str)) = false := by decide) (hcd : (x == ("__classdict__" : Str)) = false := by decide) : PE X (.Name x pos) (tVar i) := by
  intro pins s σ H Q I h
  obtain ⟨v, e, h⟩ := h
  obtain ⟨m, hn, hl⟩ := I.loc
  obtain ⟨u, r, l⟩ := hl i x v hN e hv
  have fin : EP X pins σ Q u s := ⟨v, H, I, r, h⟩
  rcases l with ⟨hk, hm⟩ | ⟨hk, c, hc, hcell⟩
  · exact wpAny_Name (wpAny_loadName_local I.ok.kind hk hn hm fin) hd
  · rcases hk with hk | hk
    · exact wpAny_Name (wpAny_loadName_cell I.ok.kind hk hc hcell fin) hd
    · exact wpAny_Name (wpAny_loadName_free I.ok.kind hk hc hcell fin hcd) hd
theorem pe_int {i j pos} : PE X (.Constant (.int i) j pos) (tC (.int i)) := fun _ _ _ H _ I h => wpAny_Constant_int ⟨.int i, H, I.tok _, ⟨_, rfl⟩, h⟩
theorem pe_bl {b j pos} : PE X (.Constant (.bool b) j pos) (tC (.bl b)) := fun _ _ _ H _ I h => Constant_bool ⟨.bl b, H, I, rfl, h⟩
theorem pe_non {j pos} : PE X (.Constant .none j pos) (tC .non) := fun _ _ _ H _ I h => Constant_none ⟨.non, H, I, rfl, h⟩
theorem pe_str {x j pos} : PE X (.Constant (.str x) j pos) (tC (.str x)) := fun _ _ _ H _ I h => Calls.Constant_str ⟨.str x, H, I.tok _, ⟨_, rfl⟩, h⟩
def Gl (X : Cx) (x : Str) : Prop := X.env.kindOf x = some .globalImplicit
theorem ld_glob {E : Value → Shared → Prop} {pins : List (Addr × Obj)} {s : Shared} {σ : St} {H : Hp} {x : Str} {u : Value} {pos : Pos} {Q : Value → Shared → Prop} (I : Inv X pins σ H s) (hg : Gl X x) (hm : X.mg x = some u) (h : Q u s)
    (hd : (x == ("__debug__" : Str)) = false := by decide) : wpAny (model X.prog X.w) X.A (eval (.Name x pos) X.env) Q E s :=
  Calls.Name_function_global I.ok.kind hg (Calls.loadGlobal_global (by rw [I.ok.glob]; exact I.mod.glob.keeps I.bk) hm h) hd
theorem ld_blt {E : Value → Shared → Prop} {pins : List (Addr × Obj)} {s : Shared} {σ : St} {H : Hp} {x : Str} {u : Value} {pos : Pos} {Q : Value → Shared → Prop} (I : Inv X pins σ H s) (hg : Gl X x) (hm : X.mg x = none) (hv : bootBuiltins x = some u) (h : Q u s)
    (hn : x ≠ "__name__" := by decide) (hd : (x == ("__debug__" : Str)) = false := by decide) : wpAny (model X.prog X.w) X.A (eval (.Name x pos) X.env) Q E s := by
  obtain ⟨mb, h1, h2⟩ := I.mod.blt
  exact Calls.Name_function_global I.ok.kind hg (Calls.loadGlobal_builtin (by rw [I.ok.glob]; exact I.mod.glob.keeps I.bk) hm (by rw [I.ok.blt]; exact h1.keeps I.bk) ((h2 x hn).trans hv) h) hd
theorem pe_bltn {x : Str} {v : V} {u : Value} {pos : Pos} (hg : Gl X x) (hm : X.mg x = none) (hv : bootBuiltins x = some u) (r : RelV v u) (hn : x ≠ "__name__" := by decide) (hd : (x == ("__debug__" : Str)) = false := by decide) : PE X (.Name x pos) (tC v) :=
  fun _ _ _ H _ I h => ld_blt I hg hm hv ⟨v, H, I, r, h⟩ hn hd
variable {a b : Expr} {ta tb : TE} {pos : Pos}
variable {tA tB' : TT} {rest : List Expr}
def tAnd (t u : TT) : TT := fun σ H Q => t σ H fun c H1 => if c = true then u σ H1 Q else Q false H1
def tOr (t u : TT) : TT := fun σ H Q => t σ H fun c H1 => if c = true then Q true H1 else u σ H1 Q
def tNot (t : TT) : TT := fun σ H Q => t σ H fun c H1 => Q (!c) H1
theorem pw_and1 (ha : PT X a tA) : PW X (.BoolOp .And [a] pos) tA := by
  intro wh pins s σ H Q I h
  refine isTrue_and (thn (ha pins s σ H Q I h) fun c s1 e => ?_)
  cases c with
  | true => exact isTrue_and_nil e
  | false => exact e
theorem pw_or1 (ha : PT X a tA) : PW X (.BoolOp .Or [a] pos) tA := by
  intro wh pins s σ H Q I h
  refine isTrue_or (thn (ha pins s σ H Q I h) fun c s1 e => ?_)
  cases c with
  | false => exact isTrue_or_nil e
  | true => exact e
theorem pw_and (ha : PT X a tA) (hb : PW X (.BoolOp .And (b :: rest) pos) tB') : PW X (.BoolOp .And (a :: b :: rest) pos) (tAnd tA tB') := by
  intro wh pins s σ H Q I h
  refine isTrue_and (thn (ha pins s σ H _ I h) fun c s1 ⟨H1, I1, q1⟩ => ?_)
  cases c with
  | true => exact hb wh pins s1 σ H1 Q I1 q1
  | false => exact ⟨H1, I1, q1⟩
theorem pw_or (ha : PT X a tA) (hb : PW X (.BoolOp .Or (b :: rest) pos) tB') : PW X (.BoolOp .Or (a :: b :: rest) pos) (tOr tA tB') := by
  intro wh pins s σ H Q I h
  refine isTrue_or (thn (ha pins s σ H _ I h) fun c s1 ⟨H1, I1, q1⟩ => ?_)
  cases c with
  | true => exact ⟨H1, I1, q1⟩
  | false => exact hb wh pins s1 σ H1 Q I1 q1
theorem pt_not (ha : PT X a tA) : PT X (.UnaryOp .Not a pos) (tNot tA) := by
  intro pins s σ H Q I h
  exact isTrue_not (ha pins s σ H (fun c H1 => Q (!c) H1) I h)
def tAndV (ta tb : TE) : TE := fun σ H Q => ta σ H fun x H1 => ∃ c, x = .bl c ∧ if c = true then tb σ H1 Q else Q (.bl false) H1
def tNotV (ta : TE) : TE := fun σ H Q => ta σ H fun x H1 => ∃ c, x = .bl c ∧ Q (.bl (!c)) H1
theorem pe_one {op} {t : TE} (h : PE X a t) : PE X (.BoolOp op [a] pos) t := fun pins s σ H Q I hw => BoolOp_one (h pins s σ H Q I hw)
theorem pe_and (ha : PE X a ta) (hb : PE X (.BoolOp .And (b :: rest) pos) tb) : PE X (.BoolOp .And (a :: b :: rest) pos) (tAndV ta tb) := by
  intro pins s σ H Q I h
  refine BoolOp_and (thn (ha pins s σ H _ I h) fun v s1 ⟨x, H1, I1, r1, q1⟩ => ?_)
  obtain ⟨c, rfl, q1⟩ := q1
  cases r1
  refine wpAny_truthy_bool ?_
  cases c with
  | true => exact hb pins s1 σ H1 Q I1 q1
  | false => exact ⟨.bl false, H1, I1, rfl, q1⟩
theorem pe_not (ha : PE X a ta) : PE X (.UnaryOp .Not a pos) (tNotV ta) := by
  intro pins s σ H Q I h
  refine UnaryOp_ (thn (ha pins s σ H _ I h) fun v s1 ⟨x, H1, I1, r1, q1⟩ => ?_)
  obtain ⟨c, rfl, q1⟩ := q1
  cases r1
  exact not_of (wpAny_truthy_bool ⟨.bl (!c), H1, I1, rfl, q1⟩)
end
end L2
namespace L2
open PySem PySem.Spec PyProof.Rows
def SqL (K : Fg) (H : Hp) (a : Addr) (xs : List V) : Prop :=
  Rd H a (.lst xs) ∨
    ∃ (o : Obj) (its : Array Value) (n : Nat), K.lookup a = some o ∧ o.cls = .type "list" ∧ o.dict = none ∧ o.data = .seq its n ∧ its.size ≤ sizeLine ∧ Vals xs its.toList
def SqT (K : Fg) (H : Hp) (a : Addr) (xs : List V) : Prop :=
  Rd H a (.tup xs) ∨
    ∃ (o : Obj) (its : Array Value) (n : Nat), K.lookup a = some o ∧ o.cls = .type "tuple" ∧ o.data = .seq its n ∧ its.size ≤ sizeLine ∧ Vals xs its.toList
def absV : Value → Option V
  | .none => some .non
  | .bool b => some (.bl b)
  | .int i _ => some (.int i)
  | .str x _ => some (.str x)
  | .bytes b _ => some (.byt b)
  | .float b _ => some (.flt b)
  | .ref a => some (.ref a)
  | .type n => some (.ty n)
  | _ => none
theorem RelV.abs {x : V} {u : Value} (r : RelV x u) : absV u = some x := by
  cases x with
  | non => cases r; rfl
  | bl _ => cases r; rfl
  | int _ => obtain ⟨t, rfl⟩ := r; rfl
  | str _ => obtain ⟨t, rfl⟩ := r; rfl
  | byt _ => obtain ⟨t, rfl⟩ := r; rfl
  | flt _ => obtain ⟨t, rfl⟩ := r; rfl
  | ref _ => cases r; rfl
  | ty _ => cases r; rfl
theorem RelV.inj {x y : V} {u : Value} (r : RelV x u) (q : RelV y u) : x = y := Option.some.inj (r.abs.symm.trans q.abs)
theorem Vals.inj : ∀ {xs ys : List V} {us : List Value}, Vals xs us → Vals ys us → xs = ys
  | _, _, _, .nil, .nil => rfl
  | _, _, _, .cons r t, .cons r' t' => by rw [r.inj r', Vals.inj t t']
section
variable {X : Cx} {pins : List (Addr × Obj)} {σ : St} {H : Hp} {s : Shared} {a : Addr} {xs ys : List V}
theorem SqL.of {K : Fg} (h : H a = some (.lst xs)) : SqL K H a xs := .inl (.inl h)
theorem SqT.of {K : Fg} (h : H a = some (.tup xs)) : SqT K H a xs := .inl (.inl h)
theorem Inv.list (I : Inv X pins σ H s) (h : SqL X.K H a xs) : ∃ its : List Value, Vals xs its ∧ PlainL s.heap a its.toArray ∧ xs.length ≤ sizeLine := by
  rcases h with h | ⟨o, its, n, hk, hc, hd, hs, hz, r⟩
  · obtain ⟨z, its, n, r, e⟩ := h.ok I.hok
    exact ⟨its, r, ⟨_, n, e, rfl, rfl, rfl⟩, z⟩
  · refine ⟨its.toList, r, ⟨o, n, I.kIn a o hk, hc, hd, by simpa using hs⟩, ?_⟩
    have e := r.length
    simp only [Array.length_toList] at e
    omega
theorem Inv.tuple (I : Inv X pins σ H s) (h : SqT X.K H a xs) : ∃ its : List Value, Vals xs its ∧ IsTup s.heap a its.toArray ∧ xs.length ≤ sizeLine := by
  rcases h with h | ⟨o, its, n, hk, hc, hs, hz, r⟩
  · obtain ⟨z, its, r, p⟩ := h.ok I.hok
    exact ⟨its, r, p, z⟩
  · refine ⟨its.toList, r, ⟨o, I.kIn a o hk, hc, n, by simpa using hs⟩, ?_⟩
    have e := r.length
    simp only [Array.length_toList] at e
    omega
theorem Inv.list_inj (I : Inv X pins σ H s) (h : SqL X.K H a xs) (h' : SqL X.K H a ys) : xs = ys := by
  obtain ⟨its, r, ⟨o, n, e, _, _, d⟩, _⟩ := I.list h
  obtain ⟨its', r', ⟨o', n', e', _, _, d'⟩, _⟩ := I.list h'
  rw [e] at e'; cases e'
  rw [d] at d'
  injection d' with d1 _
  have : its = its' := by simpa using congrArg Array.toList d1
  subst this
  exact r.inj r'
theorem Inv.tuple_inj (I : Inv X pins σ H s) (h : SqT X.K H a xs) (h' : SqT X.K H a ys) : xs = ys := by
  obtain ⟨its, r, ⟨o, e, _, n, d⟩, _⟩ := I.tuple h
  obtain ⟨its', r', ⟨o', e', _, n', d'⟩, _⟩ := I.tuple h'
  rw [e] at e'; cases e'
  rw [d] at d'
  injection d' with d1 _
  have : its = its' := by simpa using congrArg Array.toList d1
  subst this
  exact r.inj r'
end
abbrev Cx.wish (X : Cx) (E : Value → Shared → Prop) : Cx := { X with xe := E }
abbrev Cx.nox (X : Cx) : Cx := X.wish fun _ _ => False
theorem Cx.Ok.wish {X : Cx} (ok : X.Ok) (E : Value → Shared → Prop) : (X.wish E).Ok :=
  ⟨ok.mod, ok.kind, ok.glob, ok.blt, ok.above, ok.inj, ok.has, ok.cab, ok.hd, ok.frames, ok.stk, ok.exf, ok.bs, ok.bsz, ok.noex, ok.exfs, ok.funs, ok.frf⟩
theorem Cx.Ok.unwish {X : Cx} {E : Value → Shared → Prop} (ok : (X.wish E).Ok) : X.Ok :=
  ⟨ok.mod, ok.kind, ok.glob, ok.blt, ok.above, ok.inj, ok.has, ok.cab, ok.hd, ok.frames, ok.stk, ok.exf, ok.bs, ok.bsz, ok.noex, ok.exfs, ok.funs, ok.frf⟩
section
variable {X : Cx} {pins : List (Addr × Obj)} {σ : St} {H : Hp} {s : Shared} {E : Value → Shared → Prop}
theorem Inv.wish (I : Inv X pins σ H s) (E : Value → Shared → Prop) : Inv (X.wish E) pins σ H s := ⟨I.ok.wish E, I.os, I.bare, I.base, I.loc, I.cell, I.free, I.freeC, I.pin, I.hok, I.len⟩
theorem Inv.unwish (I : Inv (X.wish E) pins σ H s) : Inv X pins σ H s := ⟨I.ok.unwish, I.os, I.bare, I.base, I.loc, I.cell, I.free, I.freeC, I.pin, I.hok, I.len⟩
theorem SP.unwish {D : Ends} {f : Flow} {s' : Shared} (h : SP (X.wish E) pins D f s') : SP X pins D f s' := by
  cases f with
  | next => obtain ⟨σ', H', I, q⟩ := h; exact ⟨σ', H', I.unwish, q⟩
  | brk => obtain ⟨σ', H', I, q⟩ := h; exact ⟨σ', H', I.unwish, q⟩
  | cont => obtain ⟨σ', H', I, q⟩ := h; exact ⟨σ', H', I.unwish, q⟩
  | ret u => obtain ⟨v, σ', H', I, r, q⟩ := h; exact ⟨v, σ', H', I.unwish, r, q⟩
theorem PSs.nox {st : List Stmt} {t : TS} (h : PSs X.nox st t) : PSs X st t := fun pins s σ H D I hw =>
  wpAny_mono (h pins s σ H D (I.wish _) hw) (fun _ _ q => q.unwish) fun _ _ z => False.elim z
end
section
variable {X : Cx} {st : Stmt} {rest : List Stmt} {t u : TS} {e : Expr} {te : TE} {pos : Pos}
def tNext : TS := fun D σ H => D.nx σ H
def tSeq (t u : TS) : TS := fun D σ H => t { D with nx := u D } σ H
theorem pss_nil : PSs X [] tNext := fun _ _ σ H _ I h => wpAny_execs_nil ⟨σ, H, I, h⟩
theorem pss_cons (h1 : PS X st t) (h2 : PSs X rest u) : PSs X (st :: rest) (tSeq t u) := by
  intro pins s σ H D I h
  refine wpAny_execs_cons (thn (h1 pins s σ H { D with nx := u D } I h) fun f s1 q => ?_)
  cases f with
  | next =>
    obtain ⟨σ', H', I', q⟩ := q
    exact h2 pins s1 σ' H' D I' q
  | ret v => exact q
  | brk => exact q
  | cont => exact q
theorem pss_one (h1 : PS X st t) : PSs X [st] t := by
  intro pins s σ H D I h
  refine wpAny_execs_cons (thn (h1 pins s σ H D I h) fun f s1 q => ?_)
  cases f with
  | next => exact wpAny_execs_nil q
  | ret v => exact q
  | brk => exact q
  | cont => exact q
theorem Inv.quiet {pins : List (Addr × Obj)} {σ : St} {H : Hp} {s : Shared} (I : Inv X pins σ H s) : interactive X.env = false := by simp [interactive, I.ok.kind]
def tDrop (te : TE) : TS := fun D σ H => te σ H fun _ H1 => D.nx σ H1
theorem ps_expr (he : PE X e te) (hs : swapsWith e none pos.line X.env = pure false := by rfl) : PS X (.Expr e pos) (tDrop te) := by
  intro pins s σ H D I h
  exact wpAny_Expr_any (thn (he pins s σ H _ I h) fun v s1 ⟨x, H1, I1, r1, q1⟩ => ⟨σ, H1, I1, q1⟩) I.quiet hs
def tRet (te : TE) : TS := fun D σ H => te σ H D.rt
theorem ps_ret (he : PE X e te) : PS X (.Return (some e) pos) (tRet te) := by
  intro pins s σ H D I h
  exact wpAny_Return_some (thn (he pins s σ H _ I h) fun v s1 ⟨x, H1, I1, r1, q1⟩ => ⟨x, σ, H1, I1, r1, q1⟩)
def tIfS (c : TT) (t u : TS) : TS := fun D σ H => c σ H fun b H1 => if b = true then t D σ H1 else u D σ H1
theorem ps_if {c : Expr} {a b : List Stmt} {tc : TT} (hc : PT X c tc) (ha : PSs X a t) (hb : PSs X b u) : PS X (.If c a b pos) (tIfS tc t u) := by
  intro pins s σ H D I h
  refine wpAny_If (thn (hc pins s σ H _ I h) fun d s1 ⟨H1, I1, q1⟩ => ?_)
  cases d with
  | true => exact ha pins s1 σ H1 D I1 q1
  | false => exact hb pins s1 σ H1 D I1 q1
end
abbrev TG := V → St → Hp → (St → Hp → Prop) → Prop
abbrev TGs := List V → St → Hp → (St → Hp → Prop) → Prop
def PG (X : Cx) (target : Expr) (t : TG) : Prop :=
  ∀ (pins : List (Addr × Obj)) (s : Shared) (σ : St) (H : Hp) (v : V) (u : Value) (Q : St → Hp → Prop), Inv X pins σ H s → RelV v u → t v σ H Q →
    wpAny (model X.prog X.w) X.A (assign target X.env u) (fun _ s' => ∃ σ' H', Inv X pins σ' H' s' ∧ Q σ' H') X.xe s
def PGs (X : Cx) (ts : List Expr) (t : TGs) : Prop :=
  ∀ (pins : List (Addr × Obj)) (s : Shared) (σ : St) (H : Hp) (vs : List V) (us : List Value) (Q : St → Hp → Prop), Inv X pins σ H s → Vals vs us → t vs σ H Q →
    wpAny (model X.prog X.w) X.A (assignInOrder ((assignEach ts X.env).map (·.2)) us) (fun _ s' => ∃ σ' H', Inv X pins σ' H' s' ∧ Q σ' H') X.xe s
section
variable {X : Cx} {pos : Pos}
def gName (i : Nat) : TG := fun v σ H Q => Q (σ.set i (some v)) H
theorem pg_name {i : Nat} {x : Str} (hN : X.N.Nodup) (hi : X.N[i]? = some x) (hx : Loc X.env.scope x) (hf : X.fn x = true ∨ X.env.scope.names.lookup x = some .local := by first | exact .inl rfl | exact .inr rfl | assumption) : PG X (.Name x pos) (gName i) := by
  intro pins s σ H v u Q I r h
  exact wpAny_assign_Name (store_ok I hN hi hx r (fun s' I' => ⟨_, H, I', h⟩) hf)
def gNil : TGs := fun vs σ H Q => vs = [] ∧ Q σ H
def gCons (t : TG) (u : TGs) : TGs := fun vs σ H Q => ∃ v r, vs = v :: r ∧ t v σ H fun σ' H' => u r σ' H' Q
theorem pgs_nil : PGs X [] gNil := by
  intro pins s σ H vs us Q I r h
  obtain ⟨e, h⟩ := h
  subst e
  cases r
  exact assignInOrder_nil ⟨σ, H, I, h⟩
theorem pgs_cons {e : Expr} {es : List Expr} {t : TG} {u : TGs} (h1 : PG X e t) (h2 : PGs X es u)
    (hs : (assignEach (e :: es) X.env).map (·.2) = assign e X.env :: (assignEach es X.env).map (·.2) := by rfl) : PGs X (e :: es) (gCons t u) := by
  intro pins s σ H vs us Q I r h
  obtain ⟨v, vr, e1, h⟩ := h
  subst e1
  cases r with
  | cons r rr =>
    rw [hs]
    refine assignInOrder_cons (thn (h1 pins s σ H _ _ _ I r h) fun _ s1 ⟨σ1, H1, I1, q1⟩ => ?_)
    exact h2 pins s1 σ1 H1 _ _ Q I1 rr q1
def gTup (K : Fg) (n : Nat) (t : TGs) : TG := fun v σ H Q => ∃ a xs, v = .ref a ∧ SqT K H a xs ∧ xs.length = n ∧ t xs σ H Q
theorem pg_tup {es : List Expr} {k : Nat} {t : TGs} {n : Nat} (hc : X.calm = true) (h : PGs X es t)
    (hn : (assignEach es X.env).length = n := by rfl) (hst : (assignEach es X.env).findIdx? (·.1) = none := by rfl) : PG X (.Tuple es k pos) (gTup X.K n t) := by
  intro pins s σ H v u Q I r hw
  obtain ⟨a, xs, e1, hq, hl, hw⟩ := hw
  subst e1
  cases r
  obtain ⟨its, rv, ht, hz⟩ := I.tuple hq
  refine assign_Tuple_tuple (I.ok.hd hc) ht (by simp [hn, ← hl, rv.length]) hst fun h' hx => ?_
  have I1 : Inv X pins σ H { s with heap := h' } := I.kept (t' := s.toks) fun b o e => hx b o (Nat.ne_of_lt (Heap.lt_size e)) e
  exact h pins _ σ H xs _ Q I1 (by simpa using rv) hw
def tAsg (te : TE) (g : TG) : TS := fun D σ H => te σ H fun x H1 => g x σ H1 D.nx
theorem ps_set {i : Nat} {x : Str} {e : Expr} {te : TE} {pos' : Pos} (hN : X.N.Nodup) (hi : X.N[i]? = some x) (hx : Loc X.env.scope x) (he : PE X e te) (hs : swapsWith e (some (.Name x pos')) pos.line X.env = pure false := by rfl) (hf : X.fn x = true ∨ X.env.scope.names.lookup x = some .local := by first | exact .inl rfl | exact .inr rfl | assumption) :
    PS X (.Assign [.Name x pos'] e pos) (tAsg te (gName i)) := by
  intro pins s σ H D I h
  refine wpAny_Assign_Name (thn (he pins s σ H _ I h) fun v s1 ⟨y, H1, I1, r1, q1⟩ => ?_) hs
  exact store_ok I1 hN hi hx r1 (fun s2 I2 => ⟨_, H1, I2, q1⟩) hf
end
structure It where
  go : Nat → Hp → Prop
  yld : Nat → Hp → V → Hp → Prop
  stop : Nat → Hp → Prop
def FpOk (X : Cx) (pins : List (Addr × Obj)) (H : Hp) (b : Addr) : Prop :=
  H b = none ∧ b ≠ X.env.locals ∧ b ∉ X.fs ∧ (b ∈ X.ex ∨ X.s₀.heap.objs.size ≤ b) ∧ (∀ x c, X.env.cells.lookup x = some c → c ≠ b) ∧ ∀ p ∈ X.pn ++ pins, p.1 ≠ b
theorem Inv.fpOk {X : Cx} {pins : List (Addr × Obj)} {σ : St} {H H' : Hp} {s : Shared} {b : Addr} (I : Inv X pins σ H s) (hb : s.heap.objs.size ≤ b) (hn : H' b = none) : FpOk X pins H' b := by
  refine ⟨hn, Nat.ne_of_gt (Nat.lt_of_lt_of_le I.lt hb), I.nofs hb, .inr (Nat.le_trans I.sz hb), fun x c e z => ?_, fun p hp z => ?_⟩
  · obtain ⟨v, q⟩ := I.cell x c e
    exact absurd (Nat.lt_of_lt_of_le q.lt (by rw [z]; exact hb)) (Nat.lt_irrefl _)
  · exact absurd (Nat.lt_of_lt_of_le (Heap.lt_size (I.pin p hp).1) (by rw [z]; exact hb)) (Nat.lt_irrefl _)
structure Turn (P : Program) (w : World) (K : Fg) (tg : Expr) (J : It) (fp : List Addr) (it : Addr) (tn : Nat → Heap → Prop) : Prop where
  mem : it ∈ fp
  obj : ∀ i h, tn i h → ∀ b ∈ fp, ∃ o, h.get? b = some o ∧ ∀ v, o.data ≠ .cell v
  keep : ∀ i h h', tn i h → (∀ b ∈ fp, ∀ o, h.get? b = some o → h'.get? b = some o) → tn i h'
  item : ∀ (X : Cx), X.prog = P → X.w = w → X.K = K → X.calm = true → ∀ (i : Nat) (pins : List (Addr × Obj)) (s : Shared) (σ : St) (H : Hp) (E : Value → Shared → Prop), Inv X pins σ H s → (∀ b ∈ fp, FpOk X pins H b) → tn i s.heap → J.go i H →
    wpAny (model P w) X.A (pyNext (.ref it)) (fun r s1 => ∃ u, r = some u ∧
      wpAny (model P w) X.A (letOwnedTupleGo tg (.ref it) u) (fun _ s2 => ∃ x H', Inv X pins σ H' s2 ∧ RelV x u ∧ J.yld i H x H' ∧ tn (i + 1) s2.heap ∧ ∀ b ∈ fp, H' b = none) E s1) E s
  done : ∀ (X : Cx), X.prog = P → X.w = w → X.K = K → X.calm = true → ∀ (i : Nat) (pins : List (Addr × Obj)) (s : Shared) (σ : St) (H : Hp) (E : Value → Shared → Prop), Inv X pins σ H s → (∀ b ∈ fp, FpOk X pins H b) → tn i s.heap → J.stop i H →
    wpAny (model P w) X.A (pyNext (.ref it)) (fun r s1 => r = none ∧ Inv X pins σ H s1) E s
  self : ∀ (A : Around) (i : Nat) (s : Shared) (Q : Value → Shared → Prop) (E : Value → Shared → Prop), tn i s.heap → Q (.ref it) s → wpAny (model P w) A (pyIter (.ref it)) Q E s
abbrev TI := St → Hp → (It → Hp → Prop) → Prop
def PIE (X : Cx) (pins : List (Addr × Obj)) (σ : St) (tg : Expr) (R : It → Hp → Prop) (itv : Value) (s2 : Shared) : Prop :=
  ∃ (it : Addr) (fp : List Addr) (tn : Nat → Heap → Prop) (J : It) (H' : Hp), itv = .ref it ∧ Inv X pins σ H' s2 ∧ Turn X.prog X.w X.K tg J fp it tn ∧ tn 0 s2.heap ∧ (∀ b ∈ fp, FpOk X pins H' b) ∧ R J H'
def PI (X : Cx) (tg iter : Expr) (wi : TI) : Prop :=
  ∀ (pins : List (Addr × Obj)) (s : Shared) (σ : St) (H : Hp) (R : It → Hp → Prop), Inv X pins σ H s → wi σ H R →
    wpAny (model X.prog X.w) X.A (eval iter X.env) (fun v s1 => wpAny (model X.prog X.w) X.A (pyIter v) (PIE X pins σ tg R) X.xe s1) X.xe s
theorem go_of {M : Model} {A : Around} {E : Value → Shared → Prop} {s : Shared} {tg : Expr} {it : Addr} {u : Value} {o : Obj} {n : String} {vs : Array Value} {Q : Unit → Shared → Prop} (ho : s.heap.get? it = some o) (hc : o.cls = .type n) (hd : o.data = .fields vs)
    (hn : ["enumerate", "zip", "dict_itemiterator", "dict_reverseitemiterator", "odict_iterator", "itertools.zip_longest", "itertools.pairwise"].contains n = false) (hQ : Q () s) : wpAny M A (letOwnedTupleGo tg (.ref it) u) Q E s := by
  unfold letOwnedTupleGo
  cases tg <;> first
    | exact wpAny_pure hQ
    | (cases u <;> first
        | exact wpAny_pure hQ
        | (refine wpAny_bind (wpAny_load ho ?_)
           rw [hc, hd]
           show wpAny M A (if (["enumerate", "zip", "dict_itemiterator", "dict_reverseitemiterator", "odict_iterator", "itertools.zip_longest", "itertools.pairwise"].contains n && vs[0]? == some (rawInt _)) = true then _ else _) Q E s
           rw [if_neg (by intro h; rw [hn, Bool.false_and] at h; cases h)]
           exact wpAny_pure hQ))
def Itl (K : Fg) (a : Addr) : It :=
  ⟨fun i H => ∃ xs x, SqL K H a xs ∧ xs[i]? = some x, fun i H x H' => H' = H ∧ ∀ xs, SqL K H a xs → xs[i]? = some x, fun i H => ∃ xs, SqL K H a xs ∧ xs.length ≤ i⟩
def Itt (K : Fg) (a : Addr) : It :=
  ⟨fun i H => ∃ xs x, SqT K H a xs ∧ xs[i]? = some x, fun i H x H' => H' = H ∧ ∀ xs, SqT K H a xs → xs[i]? = some x, fun i H => ∃ xs, SqT K H a xs ∧ xs.length ≤ i⟩
def Itr (lo : Int) (n : Nat) : It := ⟨fun i _ => i < n, fun i H x H' => H' = H ∧ x = .int (lo + i), fun i _ => n ≤ i⟩
theorem turn_list {P : Program} {w : World} {K : Fg} {tg : Expr} (a it : Addr) : Turn P w K tg (Itl K a) [it] it (fun i h => h.IsListIter it a i) where
  mem := by simp
  obj := fun i h st b hb => by
    have e : b = it := by simpa using hb
    subst e
    obtain ⟨o, e, c, d⟩ := st
    exact ⟨o, e, fun v z => by rw [d] at z; cases z⟩
  keep := fun i h h' st k => st.at fun o e => k it (by simp) o e
  item := by
    intro X hP hw hK hc i pins s σ H E I hf st hg
    subst hP hw hK
    obtain ⟨xs, x, hq, hx⟩ := hg
    obtain ⟨its, rv, p, hz⟩ := I.list hq
    obtain ⟨u, hu, ru⟩ := rv.get hx
    obtain ⟨f0, f1, f2, f3, f4, f5⟩ := hf it (by simp)
    refine wpAny_pyNext_list_item st p.isList (x := u) (by simpa using hu) fun h' st' sb => ?_
    have I1 : Inv X pins σ H { s with heap := h' } := I.turned (t' := s.toks) (fun b o hb e => (sb.2 b hb).trans e) f0 f1 f3 f4 f5
    obtain ⟨o, e, c, d⟩ := id st'
    exact ⟨u, rfl, go_of (s := { s with heap := h' }) e c d (by decide) ⟨x, H, I1, ru, ⟨rfl, fun ys hy => by rw [I.list_inj hy hq]; exact hx⟩, st', fun b hb => (hf b hb).1⟩⟩
  done := by
    intro X hP hw hK hc i pins s σ H E I hf st hg
    subst hP hw hK
    obtain ⟨xs, hq, hx⟩ := hg
    obtain ⟨its, rv, p, hz⟩ := I.list hq
    obtain ⟨f0, f1, f2, f3, f4, f5⟩ := hf it (by simp)
    have hl := rv.length
    exact wpAny_pyNext_list_end (I.ok.hd hc) st p.isList (by simp; omega) fun h' eb => ⟨rfl, I.turned (t' := s.toks) (fun b o hb e => eb b o hb e) f0 f1 f3 f4 f5⟩
  self := fun _ _ _ _ _ st h => wpAny_pyIter_listiter st h
theorem turn_tuple {P : Program} {w : World} {K : Fg} {tg : Expr} (a it : Addr) : Turn P w K tg (Itt K a) [it] it (fun i h => h.IsTupleIter it a i) where
  mem := by simp
  obj := fun i h st b hb => by
    have e : b = it := by simpa using hb
    subst e
    obtain ⟨o, e, c, d⟩ := st
    exact ⟨o, e, fun v z => by rw [d] at z; cases z⟩
  keep := fun i h h' st k => st.at fun o e => k it (by simp) o e
  item := by
    intro X hP hw hK hc i pins s σ H E I hf st hg
    subst hP hw hK
    obtain ⟨xs, x, hq, hx⟩ := hg
    obtain ⟨its, rv, p, hz⟩ := I.tuple hq
    obtain ⟨u, hu, ru⟩ := rv.get hx
    obtain ⟨f0, f1, f2, f3, f4, f5⟩ := hf it (by simp)
    refine wpAny_pyNext_tuple_item st (show s.heap.IsTuple a its.toArray from p) (x := u) (by simpa using hu) fun h' st' sb => ?_
    have I1 : Inv X pins σ H { s with heap := h' } := I.turned (t' := s.toks) (fun b o hb e => (sb.2 b hb).trans e) f0 f1 f3 f4 f5
    obtain ⟨o, e, c, d⟩ := id st'
    exact ⟨u, rfl, go_of (s := { s with heap := h' }) e c d (by decide) ⟨x, H, I1, ru, ⟨rfl, fun ys hy => by rw [I.tuple_inj hy hq]; exact hx⟩, st', fun b hb => (hf b hb).1⟩⟩
  done := by
    intro X hP hw hK hc i pins s σ H E I hf st hg
    subst hP hw hK
    obtain ⟨xs, hq, hx⟩ := hg
    obtain ⟨its, rv, p, hz⟩ := I.tuple hq
    obtain ⟨f0, f1, f2, f3, f4, f5⟩ := hf it (by simp)
    have hl := rv.length
    exact wpAny_pyNext_tuple_end (I.ok.hd hc) st (show s.heap.IsTuple a its.toArray from p) (by simp; omega) fun h' eb => ⟨rfl, I.turned (t' := s.toks) (fun b o hb e => eb b o hb e) f0 f1 f3 f4 f5⟩
  self := fun _ _ _ _ _ st h => wpAny_pyIter_tupleiter st h
theorem turn_range {P : Program} {w : World} {K : Fg} {tg : Expr} (it : Addr) (lo : Int) (n : Nat) : Turn P w K tg (Itr lo n) [it] it (fun i h => IsRangeIter h it (lo + (i : Nat) * 1) ((n : Int) - (i : Nat)) 1) where
  mem := by simp
  obj := fun i h st b hb => by
    have e : b = it := by simpa using hb
    subst e
    exact ⟨_, st, fun v z => by
      have z' : Data.fields _ = Data.cell v := z
      cases z'⟩
  keep := fun i h h' st k => k it (by simp) _ st
  item := by
    intro X hP hw hK hc i pins s σ H E I hf st hg
    subst hP hw hK
    obtain ⟨f0, f1, f2, f3, f4, f5⟩ := hf it (by simp)
    have W := Walks.range (prog := X.prog) (w := X.w) (I.ok.hd hc) it lo 1 n
    refine W.item i s _ _ hg st fun v h' tk hv st' kk => ?_
    obtain ⟨t, rfl⟩ := hv
    have I1 : Inv X pins σ H { s with heap := h', toks := tk } := I.turned (fun b o hb e => kk b o (by simpa using hb) e) f0 f1 f3 f4 f5
    refine ⟨_, rfl, go_of (s := { s with heap := h', toks := tk }) (n := "range_iterator") st' rfl rfl (by decide) ⟨.int (lo + i), H, I1, ⟨t, ?_⟩, ⟨rfl, rfl⟩, st', fun b hb => (hf b hb).1⟩⟩
    rw [Int.mul_one]
  done := by
    intro X hP hw hK hc i pins s σ H E I hf st hg
    subst hP hw hK
    obtain ⟨f0, f1, f2, f3, f4, f5⟩ := hf it (by simp)
    exact wpAny_pyNext_range_end (I.ok.hd hc) st (by have : n ≤ i := hg; omega) fun h' eb => ⟨rfl, I.turned (t' := s.toks) (fun b o hb e => eb b o hb e) f0 f1 f3 f4 f5⟩
  self := fun _ _ _ _ _ st h => wpAny_pyIter_rangeiter st h
end L2
namespace L2
open PySem PySem.Spec PyProof.Rows
section
variable {X : Cx} {tg : Expr}
theorem range_it {pins : List (Addr × Obj)} {σ : St} {H : Hp} {s : Shared} {R : It → Hp → Prop} {E : Value → Shared → Prop} {lo hi : Int} {t u v : Tok} {tk : Nat} (I : Inv X pins σ H s) (h1 : -(2 ^ 62) ≤ lo) (h2 : lo < 2 ^ 62) (h3 : -(2 ^ 62) ≤ hi) (h4 : hi < 2 ^ 62)
    (q : R (Itr lo (hi - lo).toNat) H) : wpAny (model X.prog X.w) X.A (pyIter (.ref s.heap.objs.size)) (PIE X pins σ tg R) E { s with heap := s.heap.push { cls := .type "range", data := .fields #[.int lo t, .int hi u, .int 1 v] }, toks := tk } := by
  refine wpAny_pyIter_range (IsRange.new ..) (small_one h1 h2 h3 h4) ?_
  have I1 : Inv X pins σ H { s with heap := s.heap.push { cls := .type "range", data := .fields #[.int lo t, .int hi u, .int 1 v] }, toks := tk } := I.kept fun b o e => Heap.get?_push_of_some _ e
  refine ⟨(s.heap.push { cls := .type "range", data := .fields #[.int lo t, .int hi u, .int 1 v] }).objs.size, [(s.heap.push { cls := .type "range", data := .fields #[.int lo t, .int hi u, .int 1 v] }).objs.size], _, _, H, rfl,
    I1.kept (t' := tk) fun b o e => Heap.get?_push_of_some _ e, turn_range _ lo (hi - lo).toNat, ?_, fun b hb => ?_, q⟩
  · have e1 : lo + ((0 : Nat) : Int) * 1 = lo := by simp
    have e2 : (((hi - lo).toNat : Nat) : Int) - ((0 : Nat) : Int) = Builtin.Range.rangeSize lo hi 1 := by rw [rangeSize_one]; split <;> omega
    show IsRangeIter _ _ (lo + ((0 : Nat) : Int) * 1) ((((hi - lo).toNat : Nat) : Int) - ((0 : Nat) : Int)) 1
    rw [e1, e2]
    exact Heap.get?_push_size _ rfl
  · have e : b = (s.heap.push { cls := .type "range", data := .fields #[.int lo t, .int hi u, .int 1 v] }).objs.size := by simpa using hb
    subst e
    exact I1.fpOk (Nat.le_refl _) (I1.hok.fresh (Nat.le_refl _))
def iRng1 (ta : TA) : TI := fun σ H R => ta σ H fun vs H1 => ∃ j : Int, vs = [.int j] ∧ -(2 ^ 62) ≤ j ∧ j < 2 ^ 62 ∧ R (Itr 0 j.toNat) H1
theorem pi_range1 {a : Expr} {ta : TA} {p pos : Pos} (hg : Gl X "range") (hm : X.mg "range" = none) (ha : PA X [a] ta) (hs : starEach [a] X.env = [(false, eval a X.env)] := by rfl) : PI X tg (.Call (.Name "range" p) [a] [] pos) (iRng1 ta) := by
  intro pins s σ H R I h
  refine Call_ (ld_blt I hg hm boot_range (PyProof.Rows.callWith_type1 (thn (ha pos pins s σ H _ I h) fun us s1 ⟨vs, H1, I1, r1, q1⟩ => ?_) hs rfl))
  obtain ⟨j, e, q1, q2, q⟩ := q1
  subst e
  cases r1 with
  | cons r rr =>
    cases rr
    obtain ⟨t, rfl⟩ := r
    exact call_range_1 (range_it I1 (by omega) (by omega) q1 q2 (by simpa using q))
def tFor (wi : TI) (g : TG) (tb : TS) : TS := fun D σ H => wi σ H fun J H1 => ∃ W : Nat → Nat → St → Hp → Prop, (∃ m, W 0 m σ H1) ∧ ∀ i m σ H, W i m σ H →
  (J.stop i H ∧ D.nx σ H) ∨ (J.go i H ∧ ∃ N : St → Hp → Prop, (∀ σ' H', N σ' H' → ∃ m', m' < m ∧ W (i + 1) m' σ' H') ∧ ∀ x H', J.yld i H x H' → g x σ H' fun σ2 H2 => tb { D with nx := N, ct := N, bk := D.nx } σ2 H2)
def pinsAt (fp : List Addr) (h : Heap) : List (Addr × Obj) := fp.filterMap fun b => (h.get? b).map fun o => (b, o)
theorem mem_pinsAt {fp : List Addr} {h : Heap} {b : Addr} {o : Obj} (hb : b ∈ fp) (e : h.get? b = some o) : (b, o) ∈ pinsAt fp h := List.mem_filterMap.mpr ⟨b, hb, by rw [e]; rfl⟩
theorem of_pinsAt {fp : List Addr} {h : Heap} {p : Addr × Obj} (hp : p ∈ pinsAt fp h) : p.1 ∈ fp ∧ h.get? p.1 = some p.2 := by
  obtain ⟨b, hb, e⟩ := List.mem_filterMap.mp hp
  cases q : h.get? b with
  | none => rw [q] at e; cases e
  | some o =>
    rw [q] at e
    have e' : (b, o) = p := Option.some.inj e
    subst e'
    exact ⟨hb, q⟩
theorem Inv.pinned {pins : List (Addr × Obj)} {σ : St} {H : Hp} {s : Shared} {fp : List Addr} (I : Inv X pins σ H s) (hf : ∀ b ∈ fp, FpOk X pins H b) (ho : ∀ b ∈ fp, ∃ o, s.heap.get? b = some o ∧ ∀ v, o.data ≠ .cell v) : Inv X (pins ++ pinsAt fp s.heap) σ H s :=
  I.pins_of fun p hp => (List.mem_append.mp hp).elim (fun z => I.pin p (List.mem_append_right _ z)) fun z => by
    obtain ⟨hb, e⟩ := of_pinsAt z
    obtain ⟨f0, f1, f2, _⟩ := hf p.1 hb
    obtain ⟨o, e', d⟩ := ho p.1 hb
    rw [e] at e'; cases e'
    exact ⟨e, f0, f1, f2, d⟩
theorem Inv.unpinned {pins pl : List (Addr × Obj)} {σ : St} {H : Hp} {s : Shared} (I : Inv X (pins ++ pl) σ H s) : Inv X pins σ H s := I.pins_of fun p hp => I.pin p (List.mem_append_right _ (List.mem_append_left _ hp))
theorem ps_for {iter : Expr} {body : List Stmt} {wi : TI} {g : TG} {tb : TS} {pos : Pos} (hp : PassesOwn (model X.prog X.w) X.A X.env X.xe) (hc : X.calm = true) (hi : PI X tg iter wi) (hg : PG X tg g) (hb : PSs X body tb)
    (hs : ∀ x, foldedSetIterable iter X.env x = pure x := by intro _; rfl) : PS X (.For tg iter body [] pos) (tFor wi g tb) := by
  intro pins s σ H D I h
  refine wpAny_For (thn (hi pins s σ H _ I h) fun v s1 h1 => thn h1 fun itv s2 h2 => ?_) hs
  obtain ⟨it, fp, tn, J, H2, e, I2, T, st2, f2, W, ⟨m0, w0⟩, turn⟩ := h2
  subst e
  have stat : ∀ {H' : Hp}, (∀ b ∈ fp, H' b = none) → ∀ b ∈ fp, FpOk X pins H' b := fun hn b hb => ⟨hn b hb, (f2 b hb).2⟩
  refine codeAny_forLoop_any (fun n s' => ∃ i σ' H', Inv X pins σ' H' s' ∧ tn i s'.heap ∧ (∀ b ∈ fp, H' b = none) ∧ W i n σ' H') ?_ m0 ⟨0, σ, H2, I2, st2, fun b hb => (f2 b hb).1, w0⟩
  rintro n s3 ⟨i, σ3, H3, I3, st3, fr3, w3⟩
  rcases turn i n σ3 H3 w3 with ⟨stop, qn⟩ | ⟨go, N, hN, step⟩
  · refine wpAny_passesOwn hp (thn (T.done X rfl rfl rfl hc i pins s3 σ3 H3 X.xe I3 (stat fr3) st3 stop) fun r s4 ⟨hr, I4⟩ => ?_)
    subst hr
    exact wpAny_execs_nil ⟨σ3, H3, I4, qn⟩
  · refine wpAny_passesOwn hp (thn (T.item X rfl rfl rfl hc i pins s3 σ3 H3 X.xe I3 (stat fr3) st3 go) fun r s4 ⟨u, hr, h4⟩ => ?_)
    subst hr
    refine wpAny_passesOwn hp (thn h4 fun _ s5 ⟨x, H5, I5, r5, y5, st5, fr5⟩ => ?_)
    have I5' := I5.pinned (stat fr5) (T.obj _ _ st5)
    refine wpAny_passesOwn hp (thn (hg _ s5 σ3 H5 x u _ I5' r5 (step x H5 y5)) fun _ s6 ⟨σ6, H6, I6, q6⟩ => ?_)
    refine wpAny_passesOwn hp (thn (hb _ s6 σ6 H6 _ I6 q6) fun f s7 q7 => ?_)
    have again : ∀ {σ7 : St} {H7 : Hp}, Inv X (pins ++ pinsAt fp s5.heap) σ7 H7 s7 → N σ7 H7 → ∃ m, m < n ∧ ∃ i σ' H', Inv X pins σ' H' s7 ∧ tn i s7.heap ∧ (∀ b ∈ fp, H' b = none) ∧ W i m σ' H' := fun {σ7 H7} I7 n7 => by
      obtain ⟨m', hm, w7⟩ := hN σ7 H7 n7
      refine ⟨m', hm, i + 1, σ7, H7, I7.unpinned, T.keep _ _ _ st5 fun b hb o e => (I7.pin (b, o) (List.mem_append_right _ (List.mem_append_right _ (mem_pinsAt hb e)))).1, fun b hb => ?_, w7⟩
      obtain ⟨o, e, d⟩ := T.obj _ _ st5 b hb
      exact (I7.pin (b, o) (List.mem_append_right _ (List.mem_append_right _ (mem_pinsAt hb e)))).2.1
    cases f with
    | next => obtain ⟨σ7, H7, I7, n7⟩ := q7; exact again I7 n7
    | cont => obtain ⟨σ7, H7, I7, n7⟩ := q7; exact again I7 n7
    | brk => obtain ⟨σ7, H7, I7, q7⟩ := q7; exact ⟨σ7, H7, I7.unpinned, q7⟩
    | ret v => obtain ⟨x7, σ7, H7, I7, r7, q7⟩ := q7; exact ⟨x7, σ7, H7, I7.unpinned, r7, q7⟩
end
end L2
namespace L2
open PySem PySem.Spec PyProof.Rows
abbrev R2 := V → V → Hp → VK → Prop
def OpR (X : Cx) (f : Value → Value → Sem Value) (r : R2) : Prop :=
  ∀ (pins : List (Addr × Obj)) (s : Shared) (σ : St) (H : Hp) (x y : V) (v u : Value) (Q : VK), Inv X pins σ H s → RelV x v → RelV y u → r x y H Q →
    wpAny (model X.prog X.w) X.A (f v u) (EP X pins σ Q) X.xe s
def CallR (X : Cx) (f : Value) (r : List V → Hp → VK → Prop) : Prop :=
  ∀ (pins : List (Addr × Obj)) (s : Shared) (σ : St) (H : Hp) (xs : List V) (us : List Value) (Q : VK), Inv X pins σ H s → Vals xs us → r xs H Q →
    wpAny (model X.prog X.w) X.A (call f us) (EP X pins σ Q) X.xe s
def TruR (X : Cx) (r : V → Hp → (Bool → Hp → Prop) → Prop) : Prop :=
  ∀ (pins : List (Addr × Obj)) (s : Shared) (σ : St) (H : Hp) (x : V) (v : Value) (Q : Bool → Hp → Prop), Inv X pins σ H s → RelV x v → r x H Q →
    wpAny (model X.prog X.w) X.A (truthy v) (TP X pins σ Q) X.xe s
def tOp (r : R2) (ta tb : TE) : TE := fun σ H Q => ta σ H fun x H1 => tb σ H1 fun y H2 => r x y H2 Q
def rI (C : Int → Int → Prop) (g : Int → Int → V) : R2 := fun x y H Q => ∃ i j, x = .int i ∧ y = .int j ∧ C i j ∧ Q (g i j) H
def rI0 (g : Int → Int → V) : R2 := fun x y H Q => ∃ i j, x = .int i ∧ y = .int j ∧ Q (g i j) H
section
variable {X : Cx} {a b c : Expr} {ta tb tc : TE} {pos : Pos}
theorem binT (ha : PE X a ta) (hb : PE X b tb) {pins : List (Addr × Obj)} {s : Shared} {σ : St} {H : Hp} {R : V → V → Hp → Prop} (I : Inv X pins σ H s)
    (h : ta σ H fun x H1 => tb σ H1 fun y H2 => R x y H2) {Q : Value → Shared → Prop} {f : Value → Value → Sem Value}
    (hf : ∀ v u s2 x y H2, Inv X pins σ H2 s2 → RelV x v → RelV y u → R x y H2 → wpAny (model X.prog X.w) X.A (f v u) Q X.xe s2) :
    wpAny (model X.prog X.w) X.A (eval a X.env) (fun v s₁ => wpAny (model X.prog X.w) X.A (eval b X.env) (fun u s₂ => wpAny (model X.prog X.w) X.A (f v u) Q X.xe s₂) X.xe s₁) X.xe s := by
  refine thn (ha pins s σ H _ I h) fun v s1 ⟨x, H1, I1, r1, q1⟩ => ?_
  refine thn (hb pins s1 σ H1 _ I1 q1) fun u s2 ⟨y, H2, I2, r2, q2⟩ => ?_
  exact hf v u s2 x y H2 I2 r1 r2 q2
theorem pe_op {op : Operator} {r : R2} (ho : OpR X (binaryOp op) r) (ha : PE X a ta) (hb : PE X b tb) : PE X (.BinOp a op b pos) (tOp r ta tb) := by
  intro pins s σ H Q I h
  exact wpAny_BinOp (binT ha hb I h fun v u s2 x y H2 I2 rx ry q => ho pins s2 σ H2 x y v u Q I2 rx ry q)
theorem opI {f : Value → Value → Sem Value} {C : Int → Int → Prop} {g : Int → Int → Int}
    (rule : ∀ (i j : Int) (t u : Tok) (s : Shared) (Q : Value → Shared → Prop) (E : Value → Shared → Prop), C i j → Q (.int (g i j) s.toks) { s with toks := s.toks + 1 } → wpAny (model X.prog X.w) X.A (f (.int i t) (.int j u)) Q E s) :
    OpR X f (rI C fun i j => .int (g i j)) := by
  intro pins s σ H x y v u Q I rx ry h
  obtain ⟨i, j, rfl, rfl, hc, q⟩ := h
  obtain ⟨t, rfl⟩ := rx
  obtain ⟨t', rfl⟩ := ry
  exact rule i j t t' s _ _ hc ⟨.int (g i j), H, I.tok _, ⟨_, rfl⟩, q⟩
theorem opI0 {f : Value → Value → Sem Value} {g : Int → Int → Int}
    (rule : ∀ (i j : Int) (t u : Tok) (s : Shared) (Q : Value → Shared → Prop) (E : Value → Shared → Prop), Q (.int (g i j) s.toks) { s with toks := s.toks + 1 } → wpAny (model X.prog X.w) X.A (f (.int i t) (.int j u)) Q E s) :
    OpR X f (rI0 fun i j => .int (g i j)) := by
  intro pins s σ H x y v u Q I rx ry h
  obtain ⟨i, j, rfl, rfl, q⟩ := h
  obtain ⟨t, rfl⟩ := rx
  obtain ⟨t', rfl⟩ := ry
  exact rule i j t t' s _ _ ⟨.int (g i j), H, I.tok _, ⟨_, rfl⟩, q⟩
theorem opB0 {f : Value → Value → Sem Value} {g : Int → Int → Bool}
    (rule : ∀ (i j : Int) (t u : Tok) (s : Shared) (Q : Value → Shared → Prop) (E : Value → Shared → Prop), Q (.bool (g i j)) s → wpAny (model X.prog X.w) X.A (f (.int i t) (.int j u)) Q E s) :
    OpR X f (rI0 fun i j => .bl (g i j)) := by
  intro pins s σ H x y v u Q I rx ry h
  obtain ⟨i, j, rfl, rfl, q⟩ := h
  obtain ⟨t, rfl⟩ := rx
  obtain ⟨t', rfl⟩ := ry
  exact rule i j t t' s _ _ ⟨.bl (g i j), H, I, rfl, q⟩
def CDiv (i j : Int) : Prop := 0 < j ∧ j < 1073741824
def CPow (i j : Int) : Prop := 0 ≤ j ∧ j ≤ 1000000 ∧ i.natAbs < 2 ^ 64
def CMul (i j : Int) : Prop := (-(2 ^ 64) < i ∧ i < 2 ^ 64) ∨ (-(2 ^ 64) < j ∧ j < 2 ^ 64)
theorem CMul.ok {i j : Int} (h : CMul i j) : IntMulOk i j := by
  rcases h with ⟨h1, h2⟩ | ⟨h1, h2⟩
  · exact .of_left (intBits_le_64 h1 h2)
  · exact .of_right (intBits_le_64 h1 h2)
theorem op_add : OpR X (binaryOp .Add) (rI0 fun i j => .int (i + j)) := opI0 fun _ _ _ _ _ _ _ q => add_int q
theorem op_mul : OpR X (binaryOp .Mult) (rI CMul fun i j => .int (i * j)) := opI fun _ _ _ _ _ _ _ hc q => mul_int q hc.ok
theorem op_fdiv : OpR X (binaryOp .FloorDiv) (rI CDiv fun i j => .int (i / j)) := opI fun i j _ _ _ _ _ hc q => by
  have h1 : (0 : Int) < j := hc.1
  have h2 : j < 1073741824 := hc.2
  exact floordiv_int (by omega) (by rw [Int.fdiv_eq_ediv_of_nonneg i (by omega)]; exact q) (.inl (PyProof.noPylong_small (by omega)))
theorem op_mod : OpR X (binaryOp .Mod) (rI (fun _ j => 0 < j) fun i j => .int (i % j)) := opI fun i j _ _ _ _ _ hc q => by
  have h1 : (0 : Int) < j := hc
  exact mod_int' (by omega) (by rw [Int.fmod_eq_emod_of_nonneg i (by omega)]; exact q)
theorem op_pow : OpR X (binaryOp .Pow) (rI CPow fun i j => .int (i ^ j.toNat)) := opI fun _ _ _ _ _ _ _ hc q => pow_int_small hc.1 hc.2.1 hc.2.2 q
end
def scal : V → V → Bool
  | .non, .non => true | .non, .int _ => true | .int _, .non => true | .non, .bl _ => true | .bl _, .non => true | .non, .str _ => true | .str _, .non => true
  | .int _, .int _ => true | .bl _, .bl _ => true | .str _, .str _ => true | .byt _, .byt _ => true
  | .int _, .str _ => true | .str _, .int _ => true | .bl _, .str _ => true | .str _, .bl _ => true
  | _, _ => false
def rNe : R2 := fun x y H Q => scal x y = true ∧ Q (.bl (!decide (x = y))) H
theorem dec_int {i j : Int} : decide (V.int i = V.int j) = (i == j) := by
  rw [Bool.eq_iff_iff]
  simp
theorem dec_bl {i j : Bool} : decide (V.bl i = V.bl j) = (i == j) := by
  rw [Bool.eq_iff_iff]
  simp
theorem dec_str {i j : Str} : decide (V.str i = V.str j) = (i == j) := by
  rw [Bool.eq_iff_iff]
  simp
theorem dec_byt {i j : Array UInt8} : decide (V.byt i = V.byt j) = (i.toList == j.toList) := by
  rw [Bool.eq_iff_iff]
  cases i
  cases j
  simp
section
variable {X : Cx} {a b c : Expr} {ta tb tc : TE} {pos : Pos}
theorem fin_bl {pins : List (Addr × Obj)} {σ : St} {H : Hp} {s : Shared} {Q : VK} {k k' : Bool} (I : Inv X pins σ H s) (q : Q (.bl k) H) (e : k = k') : EP X pins σ Q (.bool k') s := by
  subst e
  exact ⟨.bl k, H, I, rfl, q⟩
theorem op_ne : OpR X (compareOp .NotEq) rNe := by
  intro pins s σ H x y v u Q I rx ry h
  obtain ⟨hs, q⟩ := h
  cases x with
  | non =>
    cases rx
    cases y with
    | non => cases ry; exact PySem.EqNone.ne_none_none (fin_bl I q (by simp))
    | bl j => cases ry; exact PySem.EqNone.ne_none_bool (fin_bl I q (by simp))
    | int j => obtain ⟨t', rfl⟩ := ry; exact PySem.EqNone.ne_none_int (fin_bl I q (by simp))
    | str j => obtain ⟨t', rfl⟩ := ry; exact PySem.EqNone.ne_none_str (fin_bl I q (by simp))
    | _ => exact absurd (show false = true from hs) Bool.false_ne_true
  | bl i =>
    cases rx
    cases y with
    | non => cases ry; exact PySem.EqNone.ne_bool_none (fin_bl I q (by simp))
    | bl j => cases ry; exact ne_bool (fin_bl I q (congrArg not dec_bl))
    | str j => obtain ⟨t', rfl⟩ := ry; exact PySem.EqMixed.ne_bool_str (fin_bl I q (by simp))
    | _ => exact absurd (show false = true from hs) Bool.false_ne_true
  | int i =>
    obtain ⟨t, rfl⟩ := rx
    cases y with
    | non => cases ry; exact PySem.EqNone.ne_int_none (fin_bl I q (by simp))
    | int j => obtain ⟨t', rfl⟩ := ry; exact ne_int (fin_bl I q (congrArg not dec_int))
    | str j => obtain ⟨t', rfl⟩ := ry; exact PySem.EqMixed.ne_int_str (fin_bl I q (by simp))
    | _ => exact absurd (show false = true from hs) Bool.false_ne_true
  | str i =>
    obtain ⟨t, rfl⟩ := rx
    cases y with
    | non => cases ry; exact PySem.EqNone.ne_str_none (fin_bl I q (by simp))
    | bl j => cases ry; exact PySem.EqMixed.ne_str_bool (fin_bl I q (by simp))
    | int j => obtain ⟨t', rfl⟩ := ry; exact PySem.EqMixed.ne_str_int (fin_bl I q (by simp))
    | str j => obtain ⟨t', rfl⟩ := ry; exact ne_str (fin_bl I q (congrArg not dec_str))
    | _ => exact absurd (show false = true from hs) Bool.false_ne_true
  | byt i =>
    obtain ⟨t, rfl⟩ := rx
    cases y with
    | byt j => obtain ⟨t', rfl⟩ := ry; exact PySem.W.ne_bytes (fin_bl I q (congrArg not dec_byt))
    | _ => exact absurd (show false = true from hs) Bool.false_ne_true
  | _ => cases y <;> exact absurd (show false = true from hs) Bool.false_ne_true
theorem op_lt : OpR X (compareOp .Lt) (rI0 fun i j => .bl (decide (i < j))) := opB0 fun _ _ _ _ _ _ _ q => lt_int q
theorem op_gt : OpR X (compareOp .Gt) (rI0 fun i j => .bl (decide (j < i))) := opB0 fun _ _ _ _ _ _ _ q => gt_int q
theorem op_isN : OpR X (compareOp .Is) (fun x y H Q => y = .non ∧ Q (.bl (decide (x = .non))) H) := by
  intro pins s σ H x y v u Q I rx ry h
  obtain ⟨rfl, q⟩ := h
  cases ry
  refine is_none_gen (fin_bl I q ?_)
  cases x <;> first
    | (cases rx; rfl)
    | (obtain ⟨t, rfl⟩ := rx; rfl)
theorem op_notN : OpR X (compareOp .IsNot) (fun x y H Q => y = .non ∧ Q (.bl (!decide (x = .non))) H) := by
  intro pins s σ H x y v u Q I rx ry h
  obtain ⟨rfl, q⟩ := h
  cases ry
  refine isnot_none_gen (fin_bl I q ?_)
  cases x <;> first
    | (cases rx; rfl)
    | (obtain ⟨t, rfl⟩ := rx; rfl)
theorem OpR.or {f : Value → Value → Sem Value} {r r' : R2} (h : OpR X f r) (h' : OpR X f r') : OpR X f (fun x y H Q => r x y H Q ∨ r' x y H Q) := by
  intro pins s σ H x y v u Q I rx ry q
  rcases q with q | q
  · exact h pins s σ H x y v u Q I rx ry q
  · exact h' pins s σ H x y v u Q I rx ry q
theorem nomark (b : Expr) {op : CmpOp} (h : op ≠ .In := by decide) (h2 : op ≠ .NotIn := by decide) : behindInMarks op b = false := by
  have e1 : (op == CmpOp.In) = false := by cases op <;> first | rfl | exact absurd rfl h
  have e2 : (op == CmpOp.NotIn) = false := by cases op <;> first | rfl | exact absurd rfl h2
  cases b <;> simp [behindInMarks, e1, e2]
theorem pe_cmpR {op : CmpOp} {r : R2} (ho : OpR X (compareOp op) r) (ha : PE X a ta) (hb : PE X b tb) (hm : behindInMarks op b = false) : PE X (.Compare a [op] [b] pos) (tOp r ta tb) := by
  intro pins s σ H Q I h
  exact wpAny_Compare1 (binT ha hb I h fun v u s2 x y H2 I2 rx ry q => ho pins s2 σ H2 x y v u Q I2 rx ry q) hm
def tTest (t : TE) : TT := fun σ H Q => t σ H fun x H' => ∃ k, x = .bl k ∧ Q k H'
theorem pt_cmpR {op : CmpOp} {r : R2} (ho : OpR X (compareOp op) r) (ha : PE X a ta) (hb : PE X b tb) (hm : behindInMarks op b = false) : PT X (.Compare a [op] [b] pos) (tTest (tOp r ta tb)) := by
  intro pins s σ H Q I h
  refine wpAny_isTrue_Compare1 (thn (ha pins s σ H _ I h) fun v s1 ⟨x, H1, I1, r1, q1⟩ => thn (hb pins s1 σ H1 _ I1 q1) fun u s2 ⟨y, H2, I2, r2, q2⟩ =>
    thn (ho pins s2 σ H2 x y v u _ I2 r1 r2 q2) fun c s3 ⟨z, H3, I3, r3, k, e, q3⟩ => ?_) hm
  subst e
  cases r3
  exact wpAny_truthy_bool ⟨H3, I3, q3⟩
def TruV (K : Fg) (x : V) (H : Hp) (k : Bool) : Prop :=
  match x with
  | .non => k = false
  | .bl b => k = b
  | .int i => k = (i != 0)
  | .str y => y.length ≤ sizeLine ∧ k = ((y.length : Int) != 0)
  | .byt y => y.size ≤ sizeLine ∧ k = ((y.size : Int) != 0)
  | .ref p => (∃ xs, SqL K H p xs ∧ k = !xs.isEmpty) ∨ (∃ xs, SqT K H p xs ∧ k = !xs.isEmpty) ∨ ∃ kvs, H p = some (.dK kvs) ∧ k = !kvs.isEmpty
  | _ => False
theorem isEmpty_kv {κ : Type} {kvs : List (κ × V)} {vs : List (κ × Value)} (r : KV kvs vs) : (!vs.isEmpty) = !kvs.isEmpty := by
  cases r <;> rfl
theorem isEmpty_of {xs : List V} {its : List Value} (r : Vals xs its) : (!its.toArray.isEmpty) = !xs.isEmpty := by
  cases r <;> simp
theorem line63 : (sizeLine : Nat) < 2 ^ 63 := by rw [sizeLine_eq]; decide
theorem tru_ok : TruR X (fun x H Q => ∃ k, TruV X.K x H k ∧ Q k H) := by
  intro pins s σ H x v Q I rx h
  obtain ⟨k, e, q⟩ := h
  have hl := line63
  have hs : sizeLine = 16777216 := sizeLine_eq
  cases x with
  | non =>
    cases rx
    have e' : k = false := e
    subst e'
    exact truthy_none ⟨H, I, q⟩
  | bl b =>
    cases rx
    have e' : k = b := e
    subst e'
    exact wpAny_truthy_bool ⟨H, I, q⟩
  | int i =>
    obtain ⟨t, rfl⟩ := rx
    have e' : k = (i != 0) := e
    subst e'
    exact PySem.P.truthy_int ⟨H, I, q⟩
  | str y =>
    obtain ⟨t, rfl⟩ := rx
    obtain ⟨hy, e'⟩ : y.length ≤ sizeLine ∧ k = ((y.length : Int) != 0) := e
    subst e'
    exact PySem.P.truthy_str (by omega) ⟨H, I.tok _, q⟩
  | byt y =>
    obtain ⟨t, rfl⟩ := rx
    obtain ⟨hy, e'⟩ : y.size ≤ sizeLine ∧ k = ((y.size : Int) != 0) := e
    subst e'
    exact PySem.W.truthy_bytes (by omega) ⟨H, I.tok _, q⟩
  | ref p =>
    cases rx
    have e' : (∃ xs, SqL X.K H p xs ∧ k = !xs.isEmpty) ∨ (∃ xs, SqT X.K H p xs ∧ k = !xs.isEmpty) ∨ ∃ kvs, H p = some (.dK kvs) ∧ k = !kvs.isEmpty := e
    rcases e' with ⟨xs, hx, e'⟩ | ⟨xs, hx, e'⟩ | ⟨kvs, hx, e'⟩
    · subst e'
      obtain ⟨its, r, pl, hz⟩ := I.list hx
      have hlen := r.length
      exact wpAny_truthy_list pl.isList (by simp only [List.size_toArray]; omega) ⟨H, I.tok _, by rw [isEmpty_of r]; exact q⟩
    · subst e'
      obtain ⟨its, r, pl, hz⟩ := I.tuple hx
      have hlen := r.length
      exact truthy_tuple pl (by simp only [List.size_toArray]; omega) ⟨H, I.tok _, by rw [isEmpty_of r]; exact q⟩
    · subst e'
      obtain ⟨hz, hS, vs, r, m⟩ : kvs.length ≤ sizeLine ∧ (p == sysModules) = false ∧ ∃ vs, KV kvs vs ∧ s.heap.DictOf (mixKind X.prog X.w) p vs := I.hok p _ hx
      have hlen : kvs.length = vs.length := Paired.length r
      exact wpAny_truthy_dict hS m (by omega) ⟨H, I.tok _, by rw [isEmpty_kv r]; exact q⟩
  | _ => exact (show False from e).elim
theorem pt_truth (ha : PE X a ta) (he : ∀ whole, isTrue a X.env whole = (do let v ← whole; standAt a.pos; holding [v] (truthy v))) :
    PT X a (fun σ H Q => ta σ H fun x H' => ∃ k, TruV X.K x H' k ∧ Q k H') := by
  intro pins s σ H Q I h
  exact isTrue_plain (thn (ha pins s σ H _ I h) fun v s1 ⟨x, H1, I1, r1, q1⟩ => tru_ok pins s1 σ H1 x v Q I1 r1 q1) (he _)
theorem op_add_str : OpR X (binaryOp .Add) (fun x y H Q => ∃ i j, x = .str i ∧ y = .str j ∧ i.length + j.length ≤ sizeLine ∧ Q (.str (i ++ j)) H) := by
  intro pins s σ H x y v u Q I rx ry h
  obtain ⟨i, j, rfl, rfl, hz, q⟩ := h
  obtain ⟨t, rfl⟩ := rx
  obtain ⟨t', rfl⟩ := ry
  exact add_str (fun t' tk => ⟨.str (i ++ j), H, I.tok _, ⟨_, rfl⟩, q⟩) hz
theorem vals1 {x : V} {us : List Value} (r : Vals [x] us) : ∃ u, us = [u] ∧ RelV x u := by
  cases r with
  | cons r1 r2 => cases r2; exact ⟨_, rfl, r1⟩
end
end L2
namespace L2
open PySem PySem.Spec PyProof.Rows
structure ObjM (h : Heap) (x dx C : Addr) (mA : Str → Option Value) : Prop where
  obj : h.get? x = some (PySem.W.instObj C dx)
  ns : h.Ns1 dx mA
  ne : dx ≠ x
theorem lookIn_ns {h : Heap} {dx : Addr} {mA : Str → Option Value} (n : h.Ns1 dx mA) : ∃ od, h.get? dx = some od ∧ ∀ name, PySem.W.lookIn name od = some (mA name) := by
  obtain ⟨o, es, ep, ho, hd, hk, _, hm⟩ := n
  refine ⟨o, ho, fun name => ?_⟩
  have e := hm name
  unfold nsFind findBy at e
  rw [← Array.find?_toList] at e
  unfold PySem.W.lookIn
  rw [hd]
  dsimp only
  split
  · rename_i y q
    rw [q] at e
    exact congrArg some e
  · rename_i q
    rw [q] at e
    have a : es.toList.any (·.refKey) = false := by
      rw [List.any_eq_false]
      intro y hy
      obtain ⟨z, t, hkey⟩ := hk y (Array.mem_toList_iff.mp hy)
      simp [DictEntry.refKey, hkey]
    have a' : ¬ es.toList.any (·.refKey) = true := by rw [a]; exact Bool.false_ne_true
    rw [if_neg a']
    exact congrArg some e
theorem ObjM.look {h : Heap} {x dx C : Addr} {mA : Str → Option Value} (I : ObjM h x dx C mA) : ∃ od, PySem.W.InstAt h x (PySem.W.instObj C dx) C (some od) ∧ ∀ name, PySem.W.lookIn name od = some (mA name) :=
  let ⟨od, ho, hl⟩ := lookIn_ns I.ns
  ⟨od, ⟨I.obj, rfl, rfl, ho⟩, hl⟩
section
variable {P : Program} {w : World} {H H' : Hp} {h h' : Heap} {a C dx : Addr} {fs fs' : List (Str × V)}
theorem ins_get (hok : HOk P w H h) (e : H a = some (.ins C dx fs)) : ∃ mA, ObjM h a dx C mA ∧ (∀ f, RelO (fs.lookup f) (mA f)) ∧ PySem.Within mA (fs.map (·.1)) ∧ fs.length ≤ 1000 ∧ H dx = some (.own a) := by
  obtain ⟨d, z, ne, ob, mA, n, r, q⟩ := (show ObjOk P w H h a (.ins C dx fs) from hok a _ e)
  exact ⟨mA, ⟨ob, n, ne⟩, r, q, z, d⟩
end
structure Cls (K : Fg) (C : Addr) : Prop where
  pg : PySem.W.plainGet K C Str.empty = true
  hd : PySem.W.hasDictIn K C = true
  po : PySem.W.plainOver K C = true
  sa : PySem.W.findIn K (.ref C) "__setattr__" = some (some (.builtin "object.__setattr__"))
theorem Cls.get {K : Fg} {C : Addr} (c : Cls K C) (f : Str) : PySem.W.plainGet K C f = true := c.pg
section
variable {X : Cx} {pins : List (Addr × Obj)} {σ : St} {H : Hp} {s : Shared} {A : Around} {E : Value → Shared → Prop} {Q : Value → Shared → Prop} {c : Value} {b : Bool}
inductive TyOf (K : Fg) (H : Hp) : V → Value → Prop where
  | non : TyOf K H .non (.type "NoneType")
  | bl (x : Bool) : TyOf K H (.bl x) (.type "bool")
  | int (i : Int) : TyOf K H (.int i) (.type "int")
  | str (x : Str) : TyOf K H (.str x) (.type "str")
  | flt (x : UInt64) : TyOf K H (.flt x) (.type "float")
  | lst {a : Addr} {xs : List V} (e : H a = some (.lst xs)) : TyOf K H (.ref a) (.type "list")
  | frz {a : Addr} {o : Obj} {xs : List V} (e : H a = some (.frz o (.lst xs))) : TyOf K H (.ref a) (.type "list")
  | tup {a : Addr} {xs : List V} (e : H a = some (.tup xs)) : TyOf K H (.ref a) (.type "tuple")
  | dK {a : Addr} {kvs : List (Key × V)} (e : H a = some (.dK kvs)) : TyOf K H (.ref a) (.type "dict")
  | dT {a : Addr} {kvs : List (List Key × V)} (e : H a = some (.dT kvs)) : TyOf K H (.ref a) (.type "dict")
  | ins {a C dx : Addr} {fs : List (Str × V)} (e : H a = some (.ins C dx fs)) (cl : Cls K C) (ha : PySem.W.findIn K (.ref C) "__class__" = some (some (.builtin "object.__class__")))
      (hn : PySem.W.specialIn K (.builtin "object.__class__") "__get__" = some (some (.builtin "getset_descriptor.__get__"))) (htk : PySem.W.takesIn K (.builtin "object.__class__") = some true)
      (hm : PySem.W.mroIn K C (.type "object") = some true) : TyOf K H (.ref a) (.ref C)
theorem isinst_ok {x : V} {u t : Value} (I : Inv X pins σ H s) (rx : RelV x u) (ty : TyOf X.K H x t) (e : PySem.W.kitOne X.K t c = some b) (h : ∀ tk, Q (.bool b) { s with toks := tk }) :
    wpAny (model X.prog X.w) A (call (.builtin "isinstance") [u, c]) Q E s := by
  cases ty with
  | non => cases (show u = Value.none from rx); exact PySem.W.kia_one PySem.W.kitx_none I.kIn True.intro e (fun z => nomatch z) h
  | bl y => cases (show u = Value.bool y from rx); exact PySem.W.kia_one PySem.W.kitx_bool I.kIn True.intro e (fun z => nomatch z) h
  | int i => obtain ⟨t, q⟩ := (show ∃ t, u = Value.int i t from rx); cases q; exact PySem.W.kia_one PySem.W.kitx_int I.kIn True.intro e (fun z => nomatch z) h
  | str y => obtain ⟨t, q⟩ := (show ∃ t, u = Value.str y t from rx); cases q; exact PySem.W.kia_one PySem.W.kitx_str I.kIn True.intro e (fun z => nomatch z) h
  | flt y => obtain ⟨t, q⟩ := (show ∃ t, u = Value.float y t from rx); cases q; exact PySem.W.kia_one PySem.W.kitx_float I.kIn True.intro e (fun z => nomatch z) h
  | @lst a xs ea =>
    cases (show u = Value.ref a from rx)
    obtain ⟨_, _, n, _, h1⟩ := (show ObjOk X.prog X.w H s.heap a (.lst xs) from I.hok a _ ea)
    exact PySem.W.kia_one PySem.W.kitx_list I.kIn ⟨_, h1, rfl⟩ e (fun z => nomatch z) h
  | @frz a ob xs ea =>
    cases (show u = Value.ref a from rx)
    obtain ⟨_, _, _, n, _, h1⟩ := (show ObjOk X.prog X.w H s.heap a (.frz ob (.lst xs)) from I.hok a _ ea)
    exact PySem.W.kia_one PySem.W.kitx_list I.kIn ⟨_, h1, rfl⟩ e (fun z => nomatch z) h
  | @tup a xs ea =>
    cases (show u = Value.ref a from rx)
    obtain ⟨_, _, _, p⟩ := (show ObjOk X.prog X.w H s.heap a (.tup xs) from I.hok a _ ea)
    obtain ⟨o, h1, h2, _⟩ := p
    exact PySem.W.kia_one PySem.W.kitx_tuple I.kIn ⟨o, h1, h2⟩ e (fun z => nomatch z) h
  | @dK a kvs ea =>
    cases (show u = Value.ref a from rx)
    obtain ⟨_, _, vs, _, p⟩ := (show ObjOk X.prog X.w H s.heap a (.dK kvs) from I.hok a _ ea)
    obtain ⟨o, es, ep, h1, h2, _⟩ := p
    exact PySem.W.kia_one PySem.W.kitx_dict I.kIn ⟨o, h1, h2.1⟩ e (fun z => nomatch z) h
  | @dT a kvs ea =>
    cases (show u = Value.ref a from rx)
    obtain ⟨_, _, xs, _, o, es, ep, h1, h2, _⟩ := (show ObjOk X.prog X.w H s.heap a (.dT kvs) from I.hok a _ ea)
    exact PySem.W.kia_one PySem.W.kitx_dict I.kIn ⟨o, h1, h2.1⟩ e (fun z => nomatch z) h
  | @ins a C dx fs ea cl ha hn htk hm =>
    cases (show u = Value.ref a from rx)
    obtain ⟨mA, O, _⟩ := ins_get I.hok ea
    obtain ⟨od, J, _⟩ := O.look
    exact PySem.W.kia_one (PySem.W.kitx_own (cl.get _) cl.hd ha hn htk hm) I.kIn J e (fun z => nomatch z) h
end
end L2
namespace L2
open PySem PySem.Spec PyProof.Rows
structure Room (k : Nat) (A : Around) : Prop where
  hd : A.handled = none
  dp : A.depth + 3 * k + 5 < recursionLimit
  un : A.units + 16 * k + 200 < cLine
theorem Room.mono {j k : Nat} {A : Around} (r : Room k A) (h : j ≤ k) : Room j A := ⟨r.hd, by have := r.dp; omega, by have := r.un; omega⟩
theorem Room.deeper {k : Nat} {A : Around} (r : Room (k + 1) A) (env : Env) : Room k (A.deeper env) :=
  ⟨r.hd, by have := r.dp; show A.depth + 1 + 3 * k + 5 < _; omega, by have := r.un; show A.units + 3 + 16 * k + 200 < _; omega⟩
theorem Room.depth {k : Nat} {A : Around} (r : Room k A) : A.depth < recursionLimit := by have := r.dp; omega
theorem Room.units0 {k : Nat} {A : Around} (r : Room k A) : A.units < cLine := by have := r.un; omega
def tNil : TA := fun _ H Q => Q [] H
def tCons (ta : TE) (tr : TA) : TA := fun σ H Q => ta σ H fun x H1 => tr σ H1 fun xs H2 => Q (x :: xs) H2
section
variable {X : Cx} {e : Expr} {es : List Expr} {te : TE} {t : TA} {pos : Pos}
theorem pa_nil : PA X [] tNil := fun _ _ _ _ H Q I h => Calls.spliced_nil ⟨[], H, I, .nil, h⟩
theorem pa_cons (ha : PE X e te) (hr : PA X es t) (hs : starEach (e :: es) X.env = (false, eval e X.env) :: starEach es X.env := by rfl) : PA X (e :: es) (tCons te t) := by
  intro pos pins s σ H Q I h
  rw [hs]
  show wpAny _ _ (spliced ((false, eval e X.env) :: backTo pos (starEach es X.env))) _ _ s
  refine Calls.spliced_cons (thn (ha pins s σ H _ I h) fun u s1 ⟨x, H1, I1, r1, q1⟩ => ?_)
  exact thn (hr pos pins s1 σ H1 _ I1 q1) fun us s2 ⟨xs, H2, I2, r2, q2⟩ => ⟨x :: xs, H2, I2, .cons r1 r2, q2⟩
def tTup (t : TA) : TE := fun σ H Q => t σ H fun xs H1 => xs.length ≤ sizeLine ∧ ∀ p, H1 p = none → Q (.ref p) (upd H1 p (.tup xs))
def tLst (t : TA) : TE := fun σ H Q => t σ H fun xs H1 => xs.length ≤ sizeLine ∧ ∀ p, H1 p = none → Q (.ref p) (upd H1 p (.lst xs))
theorem pe_tup {x1} (h : PA X es t) : PE X (.Tuple es x1 pos) (tTup t) := by
  intro pins s σ H Q I hq
  refine wpAny_Tuple_spliced (thn (h pos pins s σ H _ I hq) fun us s1 ⟨xs, H1, I1, r, z, q⟩ => ⟨by rw [← r.length]; exact z, ?_⟩)
  have hf : H1 s1.heap.objs.size = none := I1.hok.fresh (Nat.le_refl _)
  refine ⟨.ref s1.heap.objs.size, upd H1 s1.heap.objs.size (.tup xs), I1.laid (t' := s1.toks) (fun b u e => Heap.get?_push_of_some _ e) (Nat.le_refl _) ?_, rfl, q _ hf⟩
  exact ⟨z, us, r, ⟨_, Heap.get?_push_size _ rfl, rfl, _, rfl⟩⟩
theorem pe_lst (h : PA X es t) : PE X (.List es pos) (tLst t) := by
  intro pins s σ H Q I hq
  refine wpAny_List_spliced (thn (h pos pins s σ H _ I hq) fun us s1 ⟨xs, H1, I1, r, z, q⟩ => ⟨by rw [← r.length]; exact z, ?_⟩)
  have hf : H1 s1.heap.objs.size = none := I1.hok.fresh (Nat.le_refl _)
  refine ⟨.ref s1.heap.objs.size, upd H1 s1.heap.objs.size (.lst xs), I1.laid (t' := s1.toks) (fun b u e => Heap.get?_push_of_some _ e) (Nat.le_refl _) ?_, rfl, q _ hf⟩
  exact ⟨z, us, 0, r, Heap.get?_push_size _ rfl⟩
end
abbrev Sp := List V → Hp → VK → XK → Prop
abbrev CXT := List Env → Hp → Shared → XK → Value → Shared → Prop
structure Env0 (P : Program) (w : World) (K : Fg) (mg : Str → Option Value) (base : Heap) (A : Around) (outer : List Env) (s : Shared) (H : Hp) : Prop where
  frames : A.frames = some outer
  mod : Mod K mg base
  bs : ∀ b o, base.get? b = some o → s.heap.get? b = some o ∧ H b = none
  bsz : base.objs.size ≤ s.heap.objs.size
  funs : s.heap.FunFrames base outer
  frf : ∀ b ∈ frs outer, H b = none
  hok : HOk P w H s.heap
  bare : AllBare s.gens
def CE (outer : List Env) (P : Program) (w : World) (H : Hp) (s : Shared) (Q : VK) (u : Value) (s' : Shared) : Prop :=
  ∃ v H', s'.os = s.os ∧ AllBare s'.gens ∧ Un (frs outer) [] H H' s.heap s'.heap ∧ HOk P w H' s'.heap ∧ RelV v u ∧ Q v H'
def CR (CX : CXT) (outer : List Env) (P : Program) (w : World) (H : Hp) (s : Shared) (Q : VK) (E : XK) (r : Result) (s' : Shared) : Prop :=
  match r with
  | .ok (.ret u) => CE outer P w H s Q u s'
  | .ok _ => False
  | .error e => CX outer H s E e s'
structure FnOk (P : Program) (w : World) (K : Fg) (mg : Str → Option Value) (base : Heap) (CX : CXT) (k : Nat) (f : Addr) (fd : FuncData) (ps : List Str) (sp : Sp) : Prop where
  len : ∀ vs H Q E, sp vs H Q E → vs.length = ps.length
  run : ∀ (A : Around) (outer : List Env) (s : Shared) (H : Hp) (args : Args) (us : List Value) (vs : List V) (Q : VK) (E : XK), Room k A → Env0 P w K mg base A outer s H → BindsTo s fd args (ps.zip us) → Vals vs us → sp vs H Q E →
    codeAny (model P w) A (.call (.ref f) args) (CR CX outer P w H s Q E) s
section
variable {X : Cx} {pins : List (Addr × Obj)} {σ : St} {H : Hp} {s s' : Shared}
theorem Inv.env0 (I : Inv X pins σ H s) : Env0 X.prog X.w X.K X.mg X.base X.A X.stack s H :=
  ⟨I.ok.frames, I.ok.mod, I.bs, Nat.le_trans I.ok.bsz I.sz, I.stack, I.stkFree, I.hok, I.bare⟩
theorem Inv.after {Q : VK} {u : Value} (I : Inv X pins σ H s) (h : CE X.stack X.prog X.w H s Q u s') : EP X pins σ Q u s' := by
  obtain ⟨v, H', os, bare, un, hok, r, q⟩ := h
  obtain ⟨hh, g, d, t, os'⟩ := s'
  obtain rfl : os' = s.os := os
  exact ⟨v, H', I.call (h' := hh) (g' := g) (d' := d) (t' := t) (ch := []) un hok bare (fun b z => absurd z (by simp)), r, q⟩
end
def tCall (sp : Sp) (dvs : List V) (E : XK) (t : TA) : TE := fun σ H Q => t σ H fun vs H1 => sp (vs ++ dvs) H1 Q E
def Binds (K : Fg) (fd : FuncData) (ps : List Str) (ds : List Value) : Prop :=
  ∀ (s : Shared) (us : List Value), K.In s.heap → (us ++ ds).length = ps.length → BindsTo s fd ⟨us, []⟩ (ps.zip (us ++ ds))
theorem Binds.all {K : Fg} {fd : FuncData} {ps : List Str} (h : ∀ us : List Value, us.length = ps.length → bindArgs fd ⟨us, []⟩ = pure (ps.zip us)) : Binds K fd ps [] := fun s us _ hl => by
  rw [List.append_nil] at hl ⊢
  exact .of_eq (h us hl)
def Passes (CX : CXT) (X : Cx) (E : XK) : Prop := ∀ (pins : List (Addr × Obj)) (σ : St) (H : Hp) (s : Shared) (e : Value) (s' : Shared), Inv X pins σ H s → CX X.stack H s E e s' → X.xe e s'
section
variable {X : Cx} {CX : CXT} {k : Nat} {f C : Addr} {fd : FuncData} {ps : List Str} {sp : Sp} {dvs : List V} {ds : List Value} {E : XK} {x m : Str} {p pos apos : Pos} {e o : Expr} {es : List Expr} {ta : TE} {t : TA}
theorem run_fn {pins : List (Addr × Obj)} {σ : St} {H : Hp} {s : Shared} {Q : VK} {us : List Value} {vs : List V} (F : FnOk X.prog X.w X.K X.mg X.base CX k f fd ps sp) (hr : Room k X.A) (hb : Binds X.K fd ps ds) (hd : Vals dvs ds) (hx : Passes CX X E)
    (I : Inv X pins σ H s) (r : Vals vs us) (h : sp (vs ++ dvs) H Q E) : wpAny (model X.prog X.w) X.A (call (.ref f) us) (EP X pins σ Q) X.xe s := by
  have r2 : Vals (vs ++ dvs) (us ++ ds) := r.append hd
  have hl : (us ++ ds).length = ps.length := by rw [← r2.length]; exact F.len _ _ _ _ h
  refine wpAny_call (codeAny_mono (F.run X.A X.stack s H ⟨us, []⟩ (us ++ ds) (vs ++ dvs) Q E hr I.env0 (hb s us I.kIn hl) r2 h) fun r s' hq => ?_)
  cases r with
  | error e => exact hx pins σ H s e s' I hq
  | ok fl =>
    cases fl with
    | ret u => exact I.after hq
    | next => exact False.elim hq
    | brk => exact False.elim hq
    | cont => exact False.elim hq
theorem pe_call (F : FnOk X.prog X.w X.K X.mg X.base CX k f fd ps sp) (hr : Room k X.A) (hg : Gl X x) (hm : X.mg x = some (.ref f)) (hk : PySem.W.keepIn X.K (.ref f) = true) (hb : Binds X.K fd ps ds) (hd : Vals dvs ds) (hx : Passes CX X E)
    (ha : PA X (e :: es) t) (hdb : (x == ("__debug__" : Str)) = false := by decide) (he : starEach (e :: es) X.env = (false, eval e X.env) :: starEach es X.env := by rfl) (hpl : (backTo pos (starEach es X.env)).any (·.1) = false := by rfl) :
    PE X (.Call (.Name x p) (e :: es) [] pos) (tCall sp dvs E t) := by
  intro pins s σ H Q I h
  refine wpAny_Call_Name_kw (ld_glob I hg hm ?_ hdb)
  refine PySem.W.callWith_K (h₀ := X.base) I.ok.mod.kin hk (thn (ha pos pins s σ H _ I h) fun us s1 ⟨vs, H1, I1, r, q⟩ => ⟨I1.kIn, ?_⟩) he hpl
  exact run_fn F hr hb hd hx I1 r q
end
section
variable {X : Cx} {CX : CXT} {k : Nat} {f C : Addr} {fd : FuncData} {ps ks : List Str} {sp : Sp} {E : XK} {x m : Str} {p pos apos kpos : Pos} {e o : Expr} {es : List Expr} {kws : List Keyword} {te ta : TE} {t tk : TA} {nm : Option Str}
variable {g : List Value → List Value → List Value} {gV : List V → List V → List V}
end
structure FnScope (N P : List Str) (sc : Scope) : Prop where
  kind : sc.kind = .function
  co : sc.isCoroutine = false
  gen : sc.isGenerator = false
  nd : N.Nodup
  pre : N.take P.length = P
  par : ∀ x ∈ P, sc.names.lookup x = some .local ∨ sc.names.lookup x = some .cell
  nofree : ∀ y ∈ sc.names, y.2 ≠ .free
theorem bindL_out {kindOf : Str → Option NameKind} {x : Str} : ∀ {binds : List (Str × Value)} {m : Str → Option Value}, (∀ v, (x, v) ∉ binds) → bindL kindOf binds m x = m x
  | [], _, _ => rfl
  | (n, v) :: r, m, h => by
    unfold bindL
    rw [bindL_out fun w hw => h w (List.mem_cons_of_mem _ hw)]
    split
    · have : x ≠ n := by rintro rfl; exact h v List.mem_cons_self
      simp [this]
    · rfl
theorem bindC_out {kindOf : Str → Option NameKind} {x : Str} : ∀ {binds : List (Str × Value)} {m : Str → Option Value}, (∀ v, (x, v) ∉ binds) → bindC kindOf binds m x = m x
  | [], _, _ => rfl
  | (n, v) :: r, m, h => by
    unfold bindC
    rw [bindC_out fun w hw => h w (List.mem_cons_of_mem _ hw)]
    split
    · rfl
    · have : x ≠ n := by rintro rfl; exact h v List.mem_cons_self
      simp [this]
theorem bindL_get {kindOf : Str → Option NameKind} {x : Str} {v : Value} : ∀ {P : List Str} {vs : List Value} {i : Nat} {m : Str → Option Value}, P.Nodup → P[i]? = some x → vs[i]? = some v → kindOf x = some .local →
    bindL kindOf (P.zip vs) m x = some v
  | [], _, _, _, _, h, _, _ => by simp at h
  | _ :: _, [], _, _, _, _, h, _ => by simp at h
  | p :: P, w :: vs, 0, m, nd, h1, h2, hk => by
    simp at h1 h2; subst h1; subst h2
    show bindL kindOf ((p, w) :: P.zip vs) m p = _
    unfold bindL
    rw [bindL_out fun v hv => (List.nodup_cons.mp nd).1 (List.of_mem_zip hv).1, if_pos hk]
    simp
  | p :: P, w :: vs, i + 1, m, nd, h1, h2, hk => by
    show bindL kindOf ((p, w) :: P.zip vs) m x = _
    unfold bindL
    exact bindL_get (i := i) (List.nodup_cons.mp nd).2 (by simpa using h1) (by simpa using h2) hk
theorem bindC_get {kindOf : Str → Option NameKind} {x : Str} {v : Value} : ∀ {P : List Str} {vs : List Value} {i : Nat} {m : Str → Option Value}, P.Nodup → P[i]? = some x → vs[i]? = some v → kindOf x ≠ some .local →
    bindC kindOf (P.zip vs) m x = some v
  | [], _, _, _, _, h, _, _ => by simp at h
  | _ :: _, [], _, _, _, _, h, _ => by simp at h
  | p :: P, w :: vs, 0, m, nd, h1, h2, hk => by
    simp at h1 h2; subst h1; subst h2
    show bindC kindOf ((p, w) :: P.zip vs) m p = _
    unfold bindC
    rw [bindC_out fun v hv => (List.nodup_cons.mp nd).1 (List.of_mem_zip hv).1, if_neg hk]
    simp
  | p :: P, w :: vs, i + 1, m, nd, h1, h2, hk => by
    show bindC kindOf ((p, w) :: P.zip vs) m x = _
    unfold bindC
    exact bindC_get (i := i) (List.nodup_cons.mp nd).2 (by simpa using h1) (by simpa using h2) hk
def start (N : List Str) (vs : List V) : St := vs.map some ++ List.replicate (N.length - vs.length) none
def cxOf (CX : CXT) (P : Program) (w : World) (K : Fg) (mg : Str → Option Value) (base : Heap) (N : List Str) (qual : Str) (scope : Scope) (f : Addr) (cd : Value) (A : Around) (outer : List Env) (s : Shared) (H : Hp) (E : XK) : Cx where
  prog := P
  w := w
  K := K
  mg := mg
  base := base
  A := A.deeper (envOfC qual scope s.heap.objs.size f cd)
  N := N
  s₀ := s
  H₀ := H
  env := envOfC qual scope s.heap.objs.size f cd
  outer := outer
  stack := envOfC qual scope s.heap.objs.size f cd :: outer
  ex := []
  calm := true
  fn := fun _ => true
  pn := []
  xe := fun e s' => wpAny (model P w) (A.deeper (envOfC qual scope s.heap.objs.size f cd)) (leaving (envOfC qual scope s.heap.objs.size f cd) e) (fun _ s'' => CX outer H s E e s'') (fun e' s'' => CX outer H s E e' s'') s'
theorem cell_has {sc : Scope} {n : Nat} {x : Str} (h : sc.names.lookup x = some .cell) : ∃ c, (cellsFrom n sc.names []).lookup x = some c := by
  have q := PySem.W.cellsFrom_some sc.names n [] (.inl h)
  exact Option.isSome_iff_exists.mp q
theorem inv_start {CX : CXT} {P : Program} {w : World} {K : Fg} {mg : Str → Option Value} {base : Heap} {N ps : List Str} {qual : Str} {scope : Scope} {f : Addr} {cd : Value} {A : Around} {outer : List Env} {s s1 : Shared} {H : Hp} {E : XK} {us : List Value} {vs : List V}
    (S : FnScope N ps scope) (hd : A.handled = none) (e0 : Env0 P w K mg base A outer s H) (hl : vs.length = ps.length) (r : Vals vs us)
    (x : InCallC s s.heap.objs.size (bindL (envOfC qual scope s.heap.objs.size f cd).kindOf (ps.zip us) fun _ => none) (cellsFrom (s.heap.objs.size + 1) scope.names []) (bindC (envOfC qual scope s.heap.objs.size f cd).kindOf (ps.zip us) fun _ => none) s1) :
    Inv (cxOf CX P w K mg base N qual scope f cd A outer s H E) [] (start N vs) H s1 := by
  have hpl : ps.length ≤ N.length := by have := congrArg List.length S.pre; rw [List.length_take] at this; omega
  obtain ⟨h1, tk, rfl, hk⟩ := x.done
  have noA : ∀ b : Addr, b ∉ (cxOf CX P w K mg base N qual scope f cd A outer s H E).ex := fun b z => absurd (show b ∈ ([] : List Addr) from z) (by simp)
  refine ⟨⟨e0.mod, S.kind, rfl, rfl, Nat.le_refl _, fun y z c h1 h2 => ?_, fun y hy => ?_, fun y c _ h => ?_, fun _ => hd, Around.frames_deeper e0.frames, .inr ⟨rfl, rfl⟩, fun b z => absurd z (noA b), e0.bs, e0.bsz, fun b _ _ => noA b, fun b z => absurd z (noA b), e0.funs, e0.frf⟩,
    rfl, e0.bare, Un.kept hk, ⟨_, x.toInCall.ns, fun i y v h1 h2 h3 => ?_⟩, fun y c h => ⟨_, x.cell y c h⟩, e0.hok.fresh (Nat.le_refl _), fun y c h => ?_, fun p hp => absurd (show p ∈ ([] : List (Addr × Obj)) from hp) (by simp), e0.hok.kept hk, ?_⟩
  · exact name_of_addr x.apart (PySem.mem_of_lookup h1) (PySem.mem_of_lookup h2)
  · have hy : scope.names.lookup y = some .cell ∨ scope.names.lookup y = some .free := hy
    rcases hy with hy | hy
    · exact cell_has hy
    · exact absurd rfl (S.nofree _ (PySem.mem_of_lookup hy))
  · exact Nat.le_of_lt (x.above y c (PySem.mem_of_lookup h))
  · have hi : i < vs.length := by
      unfold start at h2
      by_cases hi : i < vs.length
      · exact hi
      · rw [List.getElem?_append_right (by simpa using hi)] at h2
        rw [List.getElem?_replicate] at h2
        split at h2 <;> cases h2
    have ha : vs[i]? = some v := by
      unfold start at h2
      rw [List.getElem?_append_left (by simpa using hi), List.getElem?_map] at h2
      cases e : vs[i]? with
      | none => rw [e] at h2; cases h2
      | some a => rw [e] at h2; cases h2; rfl
    obtain ⟨u, hu, rv⟩ := r.get ha
    have hp : ps[i]? = some y := by
      rw [← S.pre, List.getElem?_take_of_lt (by omega)]; exact h1
    have ndP : ps.Nodup := by rw [← S.pre]; exact S.nd.sublist (List.take_sublist _ _)
    refine ⟨u, rv, ?_⟩
    rcases S.par y (List.mem_of_getElem? hp) with k | k
    · exact .inl ⟨k, bindL_get ndP hp hu k⟩
    · obtain ⟨c, e⟩ := cell_has (n := s.heap.objs.size + 1) k
      refine .inr ⟨.inl k, c, e, ?_⟩
      have q := x.cell y c e
      rw [bindC_get ndP hp hu (by show scope.names.lookup y ≠ _; rw [k]; decide)] at q
      exact q
  · exact e0.hok.fresh (Nat.le_of_lt (x.above y c (PySem.mem_of_lookup h)))
  · unfold start
    show _ = N.length
    rw [List.length_append, List.length_map, List.length_replicate]
    omega
theorem fn_of {CX : CXT} {P : Program} {w : World} {K : Fg} {mg : Str → Option Value} {base : Heap} {k : Nat} {f : Addr} {name qual : Str} {params : Arguments} {body : List Stmt} {scope : Scope} {dV kV doc pm cdv ct oc : Value} {an od : Option Addr}
    {osl : Array (Option Value)} {N ps : List Str} {sp : Sp} (lk : K.lookup f = some ⟨oc, od, .func (PySem.W.fnOf name qual params body scope dV kV doc pm an cdv ct), osl⟩) (hcd : PySem.W.codeIn K cdv qual = true) (S : FnScope N ps scope)
    (len : ∀ vs H Q E, sp vs H Q E → vs.length = ps.length)
    (hbody : ∀ (A : Around) (outer : List Env) (s : Shared) (H : Hp) (vs : List V) (Q : VK) (E : XK), Room k (A.deeper (envOfC qual scope s.heap.objs.size f cdv)) → sp vs H Q E →
      ∃ t, PSs (cxOf CX P w K mg base N qual scope f cdv A outer s H E) body t ∧ t { nx := fun _ H' => Q .non H', rt := Q } (start N vs) H) :
    FnOk P w K mg base CX (k + 1) f (PySem.W.fnOf name qual params body scope dV kV doc pm an cdv ct) ps sp := by
  refine ⟨len, fun A outer s H args us vs Q E hr e0 hb r hsp => ?_⟩
  have hl := len _ _ _ _ hsp
  have KX : K.In s.heap := e0.mod.kin.keeps fun b o e => (e0.bs b o e).1
  have lim : s.heap.NoLimit := e0.mod.nolimit.keeps fun b o e => (e0.bs b o e).1
  have hkind : ∀ y ∈ ps.zip us, scope.names.lookup y.1 = some .local ∨ (scope.names.lookup y.1 = some .cell ∧ ((cellsFrom (s.heap.objs.size + 1) scope.names []).lookup y.1).isSome = true) := fun ⟨n, v⟩ hy => by
    rcases S.par n (List.of_mem_zip hy).1 with q | q
    · exact .inl q
    · exact .inr ⟨q, PySem.W.cellsFrom_some _ _ _ (.inl q)⟩
  refine codeAny_call_function hr.depth (KX _ _ lk) rfl S.co S.gen rfl (PySem.W.codeRec_of KX hcd) (hb _ _ _ _ ?_)
  refine wpAny_newFunctionEnv_cells S.kind hkind fun env he s1 x => ?_
  subst he
  refine ⟨lim.keeps x.toInCall.keep, codeAny_func ?_⟩
  obtain ⟨t, ht, hq⟩ := hbody A outer s H vs Q E (hr.deeper _) hsp
  have I : Inv (cxOf CX P w K mg base N qual scope f cdv A outer s H E) [] (start N vs) H s1 := inv_start S hr.hd e0 hl r x
  refine wpAny_mono (ht [] s1 (start N vs) H _ I hq) (fun fl s' hs => ?_) fun e s' hs => hs
  have fin : ∀ {σ' : St} {H' : Hp} {v : V} {u : Value}, Inv (cxOf CX P w K mg base N qual scope f cdv A outer s H E) [] σ' H' s' → RelV v u → Q v H' → CE outer P w H s Q u s' :=
    fun {σ' H' v u} J rv q => ⟨v, H', J.os, J.bare, J.base, J.hok, rv, q⟩
  cases fl with
  | ret u =>
    obtain ⟨v, σ', H', J, rv, q⟩ := hs
    exact fin J rv q
  | next =>
    obtain ⟨σ', H', J, q⟩ := hs
    exact fin (v := V.non) (u := Value.none) J rfl q
  | brk =>
    obtain ⟨_, _, _, q⟩ := hs
    exact False.elim q
  | cont =>
    obtain ⟨_, _, _, q⟩ := hs
    exact False.elim q
end L2
namespace L2
open PySem PySem.Spec PyProof.Rows
section
variable {X : Cx} {x : Str} {p pos : Pos} {e : Expr} {es : List Expr} {t : TA} {id T : String} {r : List V → Hp → VK → Prop}
def tCB (r : List V → Hp → VK → Prop) (t : TA) : TE := fun σ H Q => t σ H fun vs H1 => r vs H1 Q
theorem pe_callB (hc : CallR X (.builtin id) r) (hg : Gl X x) (hm : X.mg x = none) (hv : bootBuiltins x = some (.builtin id)) (ha : PA X (e :: es) t) (hn : x ≠ "__name__" := by decide) (hdb : (x == ("__debug__" : Str)) = false := by decide)
    (he : starEach (e :: es) X.env = (false, eval e X.env) :: starEach es X.env := by rfl) (hpl : (backTo pos (starEach es X.env)).any (·.1) = false := by rfl) : PE X (.Call (.Name x p) (e :: es) [] pos) (tCB r t) := by
  intro pins s σ H Q I h
  refine wpAny_Call_Name_kw (ld_blt I hg hm hv ?_ hn hdb)
  exact PyProof.Rows.callWith_builtin1 (thn (ha pos pins s σ H _ I h) fun us s1 ⟨vs, H1, I1, r1, q1⟩ => hc pins s1 σ H1 vs us Q I1 r1 q1) he hpl
theorem pe_callTy (hc : CallR X (.type T) r) (hg : Gl X x) (hm : X.mg x = none) (hv : bootBuiltins x = some (.type T)) (ha : PA X (e :: es) t) (hn : x ≠ "__name__" := by decide) (hdb : (x == ("__debug__" : Str)) = false := by decide)
    (he : starEach (e :: es) X.env = (false, eval e X.env) :: starEach es X.env := by rfl) (hpl : (backTo pos (starEach es X.env)).any (·.1) = false := by rfl) : PE X (.Call (.Name x p) (e :: es) [] pos) (tCB r t) := by
  intro pins s σ H Q I h
  refine wpAny_Call_Name_kw (ld_blt I hg hm hv ?_ hn hdb)
  exact PyProof.Rows.callWith_type1 (thn (ha pos pins s σ H _ I h) fun us s1 ⟨vs, H1, I1, r1, q1⟩ => hc pins s1 σ H1 vs us Q I1 r1 q1) he hpl
end
end L2
namespace HT
open PySem PyProof.Rows
section
open PySem.SeqAt
open PySem.AutoSeq1 (wpAny_loadPart')
open PySem.MeetsSeq PySem.MeetsSeq2 PySem.MeetsSeq3
end
section
variable {prog : Program} {w : World} {A : Around} {E : Value → Shared → Prop} {s : Shared}
theorem cat_tup {t b : Addr} {vs ws : List Value} {Q : Value → Shared → Prop} (ht : IsTup s.heap t vs.toArray) (hb : IsTup s.heap b ws.toArray) (hv : vs ≠ [])
    (h1 : ws = [] → Q (.ref t) s) (h2 : ws ≠ [] → Q (.ref s.heap.objs.size) { s with heap := s.heap.push { cls := .type "tuple", data := .seq (vs ++ ws).toArray } })
    (hsz : vs.length + ws.length ≤ sizeLine) : wpAny (model prog w) A (binaryOp .Add (.ref t) (.ref b)) Q E s := by
  obtain ⟨⟨cls, dd, data, sl⟩, ho, hc, n, hd⟩ := id ht
  obtain ⟨⟨cls2, dd2, data2, sl2⟩, ho2, hc2, n2, hd2⟩ := id hb
  simp only at hc hd hc2 hd2
  subst hc hd hc2 hd2
  have e : vs.toArray ++ ws.toArray = (vs ++ ws).toArray := by simp
  by_cases hw : ws = []
  · exact concat_meets ⟨_, ho, rfl⟩ ⟨_, ho2, rfl⟩ noFill_tuple_add seq_tuple_add PySem.F.slot_tuple_add PySem.F.entry_tuple_add (PySem.F.args_tuple_add_2 _ _)
      (tuple_addW1 t b vs.toArray ws.toArray n n2 dd dd2 sl sl2 (by simpa using hv) (by simp [hw])) ⟨ho, ho2, h1 hw⟩
  · refine concat_meets ⟨_, ho, rfl⟩ ⟨_, ho2, rfl⟩ noFill_tuple_add seq_tuple_add PySem.F.slot_tuple_add PySem.F.entry_tuple_add (PySem.F.args_tuple_add_2 _ _)
      (tuple_addW2 t b vs.toArray ws.toArray n n2 dd dd2 sl sl2 (by simpa using hv) (by simpa using hw) (by rw [List.size_toArray, List.size_toArray]; exact hsz)) ⟨ho, ho2, ?_⟩
    rw [e]
    exact h2 hw
def sIx (n d : Nat) : Option Int → Nat
  | none => d
  | some v => if v < 0 then (v + (n : Int)).toNat else min v.toNat n
theorem sIx_nat (n d k : Nat) : sIx n d (some (k : Int)) = min k n := by
  show (if (k : Int) < 0 then ((k : Int) + (n : Int)).toNat else min (k : Int).toNat n) = min k n
  rw [if_neg (by omega), Int.toNat_natCast]
theorem sIx_le (n d : Nat) (hd : d ≤ n) (o : Option Int) : sIx n d o ≤ n := by
  cases o with
  | none => exact hd
  | some v =>
    show (if v < 0 then (v + (n : Int)).toNat else min v.toNat n) ≤ n
    by_cases hv : v < 0
    · rw [if_pos hv]; omega
    · rw [if_neg hv]; exact Nat.min_le_right _ _
theorem clip_eq (v : Int) (n d : Nat) : (if v < 0 then max (v + (n : Int)) 0 else min v (n : Int)) = ((sIx n d (some v) : Nat) : Int) := by
  show (if v < 0 then max (v + (n : Int)) 0 else min v (n : Int)) = (((if v < 0 then (v + (n : Int)).toNat else min v.toNat n) : Nat) : Int)
  by_cases hv : v < 0
  · simp only [if_pos hv]; omega
  · simp only [if_neg hv]; omega
theorem adjust_gen (lo hi : Option Int) (n : Nat) : Builtin.Slice.sliceAdjust lo hi 1 (n : Int) = (((sIx n 0 lo : Nat) : Int), ((sIx n n hi : Nat) : Int)) := by
  have h1 : ¬ ((1 : Int) < 0) := by omega
  unfold Builtin.Slice.sliceAdjust
  simp only [h1, if_false]
  refine Prod.ext ?_ ?_
  · cases lo with
    | none => rfl
    | some v => exact clip_eq v n 0
  · cases hi with
    | none => rfl
    | some v => exact clip_eq v n n
theorem places_gen (i j : Nat) : Builtin.Slice.slicePlaces (i : Int) (j : Int) 1 = j - i := by
  unfold Builtin.Slice.slicePlaces
  have h1 : (1 : Int) > 0 := by omega
  simp only [h1, if_true, Int.ediv_one]
  split <;> omega
theorem slicePart_ {v : Value} {o : Option Int} {Q : Option Int → Shared → Prop} (p : IsPart v o) (h : Q o s) : wpAny (model prog w) A (Builtin.Slice.slicePartIndex v) Q E s := by
  cases p with
  | none => exact slicePart_none h
  | int i t => exact slicePart_int h
theorem sliceApplied_gen {sl : Addr} {vl vu : Value} {lo hi : Option Int} {n : Nat} {Q : Int × Int × Nat → Shared → Prop} (hs : s.heap.IsSliceOf sl vl vu .none) (pl : IsPart vl lo) (pu : IsPart vu hi)
    (h : Q (((sIx n 0 lo : Nat) : Int), 1, sIx n n hi - sIx n 0 lo) s) : wpAny (model prog w) A (Builtin.Slice.sliceApplied (.ref sl) (pure (n : Int))) Q E s := by
  obtain ⟨os, hos, hcs, hds⟩ := id hs
  unfold Builtin.Slice.sliceApplied Builtin.Slice.sliceFields
  refine wpAny_bind (wpAny_bind (wpAny_field hos hds (x := vl) rfl (wpAny_bind (wpAny_field hos hds (x := vu) rfl (wpAny_bind (wpAny_field hos hds (x := .none) rfl (wpAny_pure ?_)))))))
  refine wpAny_bind (slicePart_none ?_)
  show wpAny _ _ (if ((1 : Int) == 0) = true then _ else _) _ _ s
  rw [if_neg (by decide)]
  refine wpAny_bind (slicePart_ pl (wpAny_bind (slicePart_ pu (wpAny_bind (wpAny_pure ?_)))))
  show wpAny _ _ (match Builtin.Slice.sliceAdjust lo hi 1 (n : Int) with | (lo, hi) => pure (lo, (1 : Int), Builtin.Slice.slicePlaces lo hi 1)) _ _ s
  rw [adjust_gen lo hi n]
  show wpAny _ _ (pure (((sIx n 0 lo : Nat) : Int), (1 : Int), Builtin.Slice.slicePlaces ((sIx n 0 lo : Nat) : Int) ((sIx n n hi : Nat) : Int) 1)) _ _ s
  rw [places_gen]
  exact wpAny_pure h
theorem pick_gen (xs : Array Value) (i k : Nat) : ((List.range k).filterMap fun (m : Nat) => xs[((i : Int) + (m : Int) * 1).toNat]?).toArray = ((xs.toList.drop i).take k).toArray := by
  have e : (fun (m : Nat) => xs[((i : Int) + (m : Int) * 1).toNat]?) = fun m => xs[i + m]? := by
    funext m
    have : ((i : Int) + (m : Int) * 1).toNat = i + m := by omega
    rw [this]
  rw [e]
  have := pick_run xs i k
  rw [List.filterMap_map] at this
  have e2 : ((fun x => xs[x]?) ∘ fun x => i + x) = fun m => xs[i + m]? := rfl
  rw [e2] at this
  rw [this]
theorem getItem_tuple_cut {t sl : Addr} {items : Array Value} {vl vu : Value} {lo hi : Option Int} {Q : Value → Shared → Prop} (ht : IsTup s.heap t items) (hs : s.heap.IsSliceOf sl vl vu .none) (pl : IsPart vl lo) (pu : IsPart vu hi)
    (hw : ¬ (sIx items.size 0 lo = 0 ∧ sIx items.size items.size hi = items.size))
    (h : Q (.ref s.heap.objs.size) { s with heap := s.heap.push { cls := .type "tuple", data := .seq ((items.toList.drop (sIx items.size 0 lo)).take (sIx items.size items.size hi - sIx items.size 0 lo)).toArray } })
    (hsz : items.size ≤ sizeLine) : wpAny (model prog w) A (getItem (.ref t) (.ref sl)) Q E s := by
  have htake : sizeOk (.seq ((items.toList.drop (sIx items.size 0 lo)).take (sIx items.size items.size hi - sIx items.size 0 lo)).toArray) := by
    show ((items.toList.drop (sIx items.size 0 lo)).take (sIx items.size items.size hi - sIx items.size 0 lo)).toArray.size ≤ sizeLine
    rw [List.size_toArray, List.length_take, List.length_drop, Array.length_toList]
    omega
  have hj : sIx items.size items.size hi ≤ items.size := sIx_le _ _ (Nat.le_refl _) hi
  obtain ⟨os, hos, hcs, hds⟩ := id hs
  have hTs : s.TypeIs (.ref sl) "slice" := ⟨os, hos, hcs⟩
  unfold getItem
  try with_reducible refine wpAny_holding ?_
  first | refine wpAny_bind (wpAny_pure ?_) | skip
  refine wpAny_bind (wpAny_sequenceKey ht.typeIs (by decide) ?_)
  refine wpAny_bind (wpAny_callSpecial?_slot (name := Str.ofString "__getitem__") ht.typeIs PyProof.Rows.slot_tuple_getitem
    (wpAny_call_entry PyProof.Rows.slot_tuple_getitem ht.typeIs entry_tuple_getitem ?_ (args_tuple_getitem _ _)))
  show wpAny _ _ (Builtin.Tuple.tupleItemsOf (.ref t) >>= _) _ _ s
  refine wpAny_bind (tupleItemsOf_ ht ?_)
  refine wpAny_bind (wpAny_typeOf hTs ?_)
  rw [if_pos (by decide)]
  refine wpAny_bind (sliceApplied_gen hs pl pu ?_)
  have hno : ¬ ((((sIx items.size 0 lo : Nat) : Int) == 0 && (1 : Int) == 1 && (sIx items.size items.size hi - sIx items.size 0 lo) == items.size) = true) := by
    intro q
    rw [Bool.and_eq_true, Bool.and_eq_true] at q
    have q1 : ((sIx items.size 0 lo : Nat) : Int) = 0 := eq_of_beq q.1.1
    have q2 : sIx items.size items.size hi - sIx items.size 0 lo = items.size := eq_of_beq q.2
    exact hw ⟨by omega, by omega⟩
  show wpAny _ _ (if (((sIx items.size 0 lo : Nat) : Int) == 0 && (1 : Int) == 1 && (sIx items.size items.size hi - sIx items.size 0 lo) == items.size) = true then _ else _) _ _ s
  rw [if_neg hno, pick_gen]
  first
    | exact wpAny_bind (m := Builtin.Tuple.tupleExact _) (wpAny_newObj_type (wpAny_pure ⟨_, rfl, wpAny_pure h⟩) htake)
    | exact wpAny_bind (m := Builtin.Tuple.tupleExact _) (wpAny_newObj_type (wpAny_bind (wpAny_pure (wpAny_pure ⟨_, rfl, wpAny_pure h⟩))) htake)
    | exact wpAny_bind (wpAny_bind (m := Builtin.Tuple.tupleExact _) (wpAny_newObj_type (wpAny_pure (wpAny_pure ⟨_, rfl, wpAny_pure h⟩)) htake))
    | exact wpAny_bind (wpAny_bind (m := Builtin.Tuple.tupleExact _) (wpAny_newObj_type (wpAny_pure ⟨_, rfl, wpAny_pure h⟩) htake))
end
end HT
namespace L2
open PySem PySem.Spec PyProof.Rows
abbrev TO := St → Hp → (Option Int → Hp → Prop) → Prop
def PO (X : Cx) (e : Option Expr) (t : TO) : Prop :=
  ∀ (pins : List (Addr × Obj)) (s : Shared) (σ : St) (H : Hp) (Q : Option Int → Hp → Prop), Inv X pins σ H s → t σ H Q →
    wpAny (model X.prog X.w) X.A (evalPart e X.env) (fun u s' => ∃ o H', Inv X pins σ H' s' ∧ IsPart u o ∧ Q o H') X.xe s
def tPart (t : TE) : TO := fun σ H Q => t σ H fun x H1 => ∃ i, x = .int i ∧ Q (some i) H1
section
variable {X : Cx} {e : Expr} {te : TE} {lo hi : Option Expr} {tl th : TO} {pos p2 : Pos}
theorem po_some (h : PE X e te) : PO X (some e) (tPart te) := by
  intro pins s σ H Q I hw
  rw [evalPart_some]
  refine thn (h pins s σ H _ I hw) fun u s1 ⟨x, H1, I1, r1, q1⟩ => ?_
  obtain ⟨i, rfl, q⟩ := q1
  obtain ⟨t, rfl⟩ := r1
  exact ⟨some i, H1, I1, .int i t, q⟩
def SlR (X : Cx) (r : V → Option Int → Option Int → Hp → VK → Prop) : Prop :=
  ∀ (pins : List (Addr × Obj)) (s : Shared) (σ : St) (H : Hp) (x : V) (v vl vu : Value) (lo hi : Option Int) (sl : Addr) (Q : VK), Inv X pins σ H s → RelV x v → s.heap.IsSliceOf sl vl vu .none → IsPart vl lo → IsPart vu hi → r x lo hi H Q →
    ∃ T id, typeLookup (.type T) "__getitem__" = pure (some (.builtin id)) ∧ s.TypeIs v T ∧ wpAny (model X.prog X.w) X.A (getItem v (.ref sl)) (EP X pins σ Q) X.xe s
theorem SlR.or {r r' : V → Option Int → Option Int → Hp → VK → Prop} (h : SlR X r) (h' : SlR X r') : SlR X (fun x lo hi H Q => r x lo hi H Q ∨ r' x lo hi H Q) := by
  intro pins s σ H x v vl vu lo hi sl Q I rx hs pl pu q
  rcases q with q | q
  · exact h pins s σ H x v vl vu lo hi sl Q I rx hs pl pu q
  · exact h' pins s σ H x v vl vu lo hi sl Q I rx hs pl pu q
def tSl (r : V → Option Int → Option Int → Hp → VK → Prop) (te : TE) (tl th : TO) : TE := fun σ H Q => te σ H fun x H1 => tl σ H1 fun l H2 => th σ H2 fun u H3 => r x l u H3 Q
theorem pe_slice {r : V → Option Int → Option Int → Hp → VK → Prop} (hr : SlR X r) (he : PE X e te) (hl : PO X lo tl) (hu : PO X hi th) : PE X (.Subscript e (.Slice lo hi none p2) pos) (tSl r te tl th) := by
  intro pins s σ H Q I h
  refine Subscript_ (thn (he pins s σ H _ I h) fun v s1 ⟨x, H1, I1, r1, q1⟩ => ?_)
  refine wpAny_Slice (thn (hl pins s1 σ H1 _ I1 q1) fun vl s2 ⟨l, H2, I2, pl, q2⟩ => thn (hu pins s2 σ H2 _ I2 q2) fun vu s3 ⟨u, H3, I3, pu, q3⟩ => ?_)
  rw [evalPart_none]
  refine wpAny_pure ?_
  have I4 : Inv X pins σ H3 { s3 with heap := s3.heap.push { cls := .type "slice", data := .fields #[vl, vu, .none] } } := I3.kept (t' := s3.toks) fun b ob q => Heap.get?_push_of_some _ q
  obtain ⟨T, id, hT, ht, hg⟩ := hr pins { s3 with heap := s3.heap.push { cls := .type "slice", data := .fields #[vl, vu, .none] } } σ H3 x v vl vu l u s3.heap.objs.size Q I4 r1 (Heap.IsSliceOf.new ..) pl pu q3
  show wpAny (model X.prog X.w) X.A (subscriptTail e (.Slice lo hi none p2) v (.ref s3.heap.objs.size)) (EP X pins σ Q) X.xe { s3 with heap := s3.heap.push { cls := .type "slice", data := .fields #[vl, vu, .none] } }
  exact tail_any (ops := [.ref s3.heap.objs.size, v]) ht hT hg (by with_unfolding_all rfl)
def cutV (xs : List V) (lo hi : Option Int) : List V := (xs.drop (HT.sIx xs.length 0 lo)).take (HT.sIx xs.length xs.length hi - HT.sIx xs.length 0 lo)
theorem cutV_length (xs : List V) (lo hi : Option Int) : (cutV xs lo hi).length ≤ xs.length := by
  unfold cutV
  rw [List.length_take, List.length_drop]
  omega
def rSlT (K : Fg) : V → Option Int → Option Int → Hp → VK → Prop := fun x lo hi H Q => ∃ a xs, x = .ref a ∧ SqT K H a xs ∧
  ¬ (HT.sIx xs.length 0 lo = 0 ∧ HT.sIx xs.length xs.length hi = xs.length) ∧ ∀ p, H p = none → Q (.ref p) (upd H p (.tup (cutV xs lo hi)))
theorem sl_tup : SlR X (rSlT X.K) := by
  intro pins s σ H x v vl vu lo hi sl Q I rx hs pl pu h
  obtain ⟨a, xs, rfl, hx, hw, q⟩ := h
  cases rx
  obtain ⟨its, r, ht, hz⟩ := I.tuple hx
  have hlen : its.toArray.size = xs.length := by rw [List.size_toArray]; exact r.length.symm
  refine ⟨"tuple", _, PyProof.Rows.slot_tuple_getitem.lookup, ht.typeIs, ?_⟩
  refine HT.getItem_tuple_cut ht hs pl pu (by rw [hlen]; exact hw) ?_ (by rw [hlen]; exact hz)
  rw [hlen]
  refine ⟨.ref s.heap.objs.size, _, I.laid (t' := s.toks) (o := .tup (cutV xs lo hi)) (fun b ob q => Heap.get?_push_of_some _ q) (Nat.le_refl _) ?_, rfl, q _ (I.hok.fresh (Nat.le_refl _))⟩
  exact ⟨Nat.le_trans (cutV_length xs lo hi) hz, _, (r.drop (HT.sIx xs.length 0 lo)).take (HT.sIx xs.length xs.length hi - HT.sIx xs.length 0 lo), IsTup.new _ _⟩
def rCatT (K : Fg) : R2 := fun x y H Q => ∃ a b xs ys, x = .ref a ∧ y = .ref b ∧ SqT K H a xs ∧ SqT K H b ys ∧ xs ≠ [] ∧ xs.length + ys.length ≤ sizeLine ∧
  (ys = [] → Q (.ref a) H) ∧ (ys ≠ [] → ∀ p, H p = none → Q (.ref p) (upd H p (.tup (xs ++ ys))))
theorem Vals.nil_iff {xs : List V} {us : List Value} (r : Vals xs us) : us = [] ↔ xs = [] := by
  cases r with
  | nil => simp
  | cons _ _ => simp
theorem op_catT : OpR X (binaryOp .Add) (rCatT X.K) := by
  intro pins s σ H x y v u Q I rx ry h
  obtain ⟨a, b, xs, ys, rfl, rfl, ha, hb, hx, hz, q1, q2⟩ := h
  cases rx
  cases ry
  obtain ⟨its, r1, p1, _⟩ := I.tuple ha
  obtain ⟨its2, r2, p2, _⟩ := I.tuple hb
  refine HT.cat_tup p1 p2 (fun z => hx (r1.nil_iff.mp z)) (fun z => ⟨.ref a, H, I, rfl, q1 (r2.nil_iff.mp z)⟩) (fun z => ?_) (by rw [← r1.length, ← r2.length]; exact hz)
  refine ⟨.ref s.heap.objs.size, _, I.laid (t' := s.toks) (o := .tup (xs ++ ys)) (fun b ob q => Heap.get?_push_of_some _ q) (Nat.le_refl _) ?_, rfl, q2 (fun w => z (r2.nil_iff.mpr w)) _ (I.hok.fresh (Nat.le_refl _))⟩
  exact ⟨by rw [List.length_append]; exact hz, _, r1.append r2, IsTup.new _ _⟩
end
end L2
namespace L2
open PySem PySem.Spec PyProof.Rows
def ixN (n : Nat) (i : Int) : Option Nat := if 0 ≤ i then (if i < n then some i.toNat else none) else if -(n : Int) ≤ i then some (i + n).toNat else none
def atI {α : Type} (xs : List α) (i : Int) : Option α := (ixN xs.length i).bind fun j => xs[j]?
theorem ixN_seq {n : Nat} {i : Int} {j : Nat} (h : ixN n i = some j) : seqIndex? i n = some j ∧ j < n ∧ -(n : Int) ≤ i ∧ i < n := by
  unfold ixN at h
  by_cases h0 : 0 ≤ i
  · rw [if_pos h0] at h
    by_cases h1 : i < n
    · rw [if_pos h1] at h
      have e : i.toNat = j := Option.some.inj h
      exact ⟨by rw [seqIndex_of h0 h1, e], by omega, by omega, h1⟩
    · rw [if_neg h1] at h; cases h
  · rw [if_neg h0] at h
    by_cases h1 : -(n : Int) ≤ i
    · rw [if_pos h1] at h
      have e : (i + n).toNat = j := Option.some.inj h
      exact ⟨by rw [seqIndex_neg (by omega) h1, e], by omega, h1, by omega⟩
    · rw [if_neg h1] at h; cases h
theorem atI_get {α : Type} {xs : List α} {i : Int} {v : α} (h : atI xs i = some v) : ∃ j, seqIndex? i xs.length = some j ∧ xs[j]? = some v ∧ j < xs.length ∧ -(xs.length : Int) ≤ i ∧ i < xs.length := by
  unfold atI at h
  cases e : ixN xs.length i with
  | none => rw [e] at h; cases h
  | some j =>
    rw [e] at h
    obtain ⟨h1, h2, h3, h4⟩ := ixN_seq e
    exact ⟨j, h1, h, h2, h3, h4⟩
theorem atI_nat {α : Type} {xs : List α} {j : Nat} {v : α} (h : xs[j]? = some v) : atI xs (j : Int) = some v := by
  have hj : j < xs.length := (List.getElem?_eq_some_iff.mp h).1
  have e : ixN xs.length (j : Int) = some j := by
    unfold ixN
    rw [if_pos (by omega), if_pos (by omega)]; simp
  unfold atI; rw [e]; exact h
def PlainIx (b : Expr) : Prop := ∀ o i, subscripted b false o i = operate [o, i] (getItem o i)
def IxR (X : Cx) (r : R2) : Prop :=
  ∀ (value slice : Expr) (pins : List (Addr × Obj)) (s : Shared) (σ : St) (H : Hp) (x y : V) (v u : Value) (Q : VK), Inv X pins σ H s → RelV x v → RelV y u → r x y H Q →
    subscripted slice false v u = operate [v, u] (getItem v u) → wpAny (model X.prog X.w) X.A (subscriptTail value slice v u) (EP X pins σ Q) X.xe s
def MtR (X : Cx) (id : String) (r : V → List V → Hp → VK → Prop) : Prop :=
  ∀ (pins : List (Addr × Obj)) (s : Shared) (σ : St) (H : Hp) (x : V) (xs : List V) (v : Value) (us : List Value) (Q : VK), Inv X pins σ H s → RelV x v → Vals xs us → r x xs H Q →
    wpAny (model X.prog X.w) X.A (call (.builtin id) (v :: us)) (EP X pins σ Q) X.xe s
section
variable {X : Cx} {a b : Expr} {ta tb : TE} {pos : Pos}
theorem IxR.or {r r' : R2} (h : IxR X r) (h' : IxR X r') : IxR X (fun x y H Q => r x y H Q ∨ r' x y H Q) := by
  intro value slice pins s σ H x y v u Q I rx ry q hs
  rcases q with q | q
  · exact h value slice pins s σ H x y v u Q I rx ry q hs
  · exact h' value slice pins s σ H x y v u Q I rx ry q hs
theorem pe_ix {r : R2} (hr : IxR X r) (ha : PE X a ta) (hb : PE X b tb) (hs : PlainIx b) : PE X (.Subscript a b pos) (tOp r ta tb) := by
  intro pins s σ H Q I h
  exact Subscript_ (binT ha hb I h fun v u s2 x y H2 I2 rx ry q => hr a b pins s2 σ H2 x y v u Q I2 rx ry q (hs _ _))
def rIxL (K : Fg) : R2 := fun x y H Q => ∃ p xs i v, x = .ref p ∧ y = .int i ∧ SqL K H p xs ∧ atI xs i = some v ∧ Q v H
def rIxT (K : Fg) : R2 := fun x y H Q => ∃ p xs i v, x = .ref p ∧ y = .int i ∧ SqT K H p xs ∧ atI xs i = some v ∧ Q v H
def rIxS : R2 := fun x y H Q => ∃ z i c, x = .str z ∧ y = .int i ∧ z.length ≤ sizeLine ∧ atI z.cps.toList i = some c ∧ Q (.str ⟨#[c]⟩) H
theorem ix_list : IxR X (rIxL X.K) := by
  intro value slice pins s σ H x y v u Q I rx ry h hs
  obtain ⟨p, xs, i, z, rfl, rfl, hq, he, q⟩ := h
  cases rx
  obtain ⟨t, rfl⟩ := ry
  obtain ⟨its, r, pl, hz⟩ := I.list hq
  obtain ⟨j, h1, h2, h3, h4, h5⟩ := atI_get he
  obtain ⟨w, ew, rw'⟩ := r.get h2
  have hl := r.length
  have hn := line63
  have fin : EP X pins σ Q w s := ⟨z, H, I, rw', q⟩
  by_cases h0 : 0 ≤ i
  · have hj : i.toNat = j := by
      rw [seqIndex_of h0 h5] at h1
      exact Option.some.inj h1
    exact item_listR pl.isList h0 (by omega) (by rw [hj]; simpa using ew) fin hs
  · have hj : (i + (its.toArray.size : Int)).toNat = j := by
      rw [seqIndex_neg (by omega) h4] at h1
      rw [List.size_toArray, ← hl]
      exact Option.some.inj h1
    exact subscriptTail_builtinR (x := w) pl.isList.typeIs slot_list_getitem.lookup
      (wpAny_getItem_list_neg (Q := fun r s' => r = w ∧ EP X pins σ Q r s') pl.isList (by omega) (by rw [List.size_toArray] <;> omega) (by omega) (by rw [hj]; simpa using ew) ⟨rfl, fin⟩) hs
theorem ix_tup : IxR X (rIxT X.K) := by
  intro value slice pins s σ H x y v u Q I rx ry h hs
  obtain ⟨p, xs, i, z, rfl, rfl, hq, he, q⟩ := h
  cases rx
  obtain ⟨t, rfl⟩ := ry
  obtain ⟨its, r, pl, hz⟩ := I.tuple hq
  obtain ⟨j, h1, h2, h3, h4, h5⟩ := atI_get he
  obtain ⟨w, ew, rw'⟩ := r.get h2
  have hl := r.length
  have hn := line63
  have fin : EP X pins σ Q w s := ⟨z, H, I, rw', q⟩
  exact subscriptTail_builtinR (x := w) pl.typeIs slot_tuple_getitem.lookup
    (getItem_tuple (j := j) (Q := fun r s' => r = w ∧ EP X pins σ Q r s') pl (by omega) (by omega) (by rw [List.size_toArray, ← hl]; exact h1) (by simpa using ew) ⟨rfl, fin⟩) hs
theorem ix_str : IxR X rIxS := by
  intro value slice pins s σ H x y v u Q I rx ry h hs
  obtain ⟨z, i, c, rfl, rfl, hz, he, q⟩ := h
  obtain ⟨t, rfl⟩ := rx
  obtain ⟨t', rfl⟩ := ry
  obtain ⟨j, h1, h2, h3, h4, h5⟩ := atI_get he
  have hl : z.cps.toList.length = z.length := by simp [Str.length]
  rw [hl] at h1 h4 h5
  have hn := line63
  exact tail_any (typeIs_str s z t) slot_str_getitem.lookup (getItem_str (c := c) (by
    have e1 : decide (i < -(2 ^ 63 : Int)) = false := decide_eq_false (by omega)
    have e2 : decide (i ≥ 2 ^ 63) = false := decide_eq_false (by omega)
    rw [e1, e2, Bool.or_false]) (by rw [h1]; simpa using h2) ⟨.str ⟨#[c]⟩, H, I.tok _, ⟨_, rfl⟩, q⟩) hs
def rIx (K : Fg) : R2 := fun x y H Q => rIxL K x y H Q ∨ rIxT K x y H Q ∨ rIxS x y H Q
theorem ix_seq : IxR X (rIx X.K) := ix_list.or (ix_tup.or ix_str)
theorem slice_bounds (lo hi : Option Int) (n : Nat) : (sliceBounds lo hi none n).1 = ((HT.sIx n 0 lo : Nat) : Int) ∧ (sliceBounds lo hi none n).2.1 = ((HT.sIx n n hi : Nat) : Int) ∧ (sliceBounds lo hi none n).2.2 = 1 := by
  refine ⟨?_, ?_, rfl⟩
  · cases lo with
    | none => simp [sliceBounds, HT.sIx]
    | some i =>
      simp only [sliceBounds, HT.sIx, Option.getD_none, show (1 : Int) > 0 by decide, if_true]
      by_cases h : i < 0
      · simp only [h, if_true] <;> omega
      · simp only [h, if_false] <;> omega
  · cases hi with
    | none => simp [sliceBounds, HT.sIx]
    | some i =>
      simp only [sliceBounds, HT.sIx, Option.getD_none, show (1 : Int) > 0 by decide, if_true]
      by_cases h : i < 0
      · simp only [h, if_true] <;> omega
      · simp only [h, if_false] <;> omega
theorem slicePick_cut (its : List Value) (lo hi : Option Int) : slicePick its.toArray lo hi none = ((its.drop (HT.sIx its.length 0 lo)).take (HT.sIx its.length its.length hi - HT.sIx its.length 0 lo)).toArray := by
  obtain ⟨h1, h2, h3⟩ := slice_bounds lo hi its.toArray.size
  unfold slicePick
  rw [h1, h2, h3]
  simp only [sliceRange_one, pick_run, List.size_toArray] <;> rfl
def rSlL (K : Fg) : V → Option Int → Option Int → Hp → VK → Prop := fun x lo hi H Q => ∃ a xs, x = .ref a ∧ SqL K H a xs ∧ ∀ p, H p = none → Q (.ref p) (upd H p (.lst (cutV xs lo hi)))
theorem sl_list : SlR X (rSlL X.K) := by
  intro pins s σ H x v vl vu lo hi sl Q I rx hs pl pu h
  obtain ⟨a, xs, rfl, hx, q⟩ := h
  cases rx
  obtain ⟨its, r, ht, hz⟩ := I.list hx
  have hlen := r.length
  refine ⟨"list", _, slot_list_getitem.lookup, ht.isList.typeIs, ?_⟩
  refine wpAny_getItem_list_slice ht.isList hs pl pu .none (by simp) ?_ (by rw [List.size_toArray] <;> omega)
  rw [slicePick_cut, ← hlen]
  refine ⟨.ref s.heap.objs.size, _, I.laid (t' := s.toks) (o := .lst (cutV xs lo hi)) (fun b ob q => Heap.get?_push_of_some _ q) (Nat.le_refl _) ?_, rfl, q _ (I.hok.fresh (Nat.le_refl _))⟩
  exact ⟨Nat.le_trans (cutV_length xs lo hi) hz, _, 0, (r.drop (HT.sIx xs.length 0 lo)).take (HT.sIx xs.length xs.length hi - HT.sIx xs.length 0 lo), Heap.get?_push_size _ rfl⟩
def flatV : V → Bool
  | .non => true
  | .bl _ => true
  | .int _ => true
  | .str _ => true
  | _ => false
def eqV : V → V → Bool
  | .non, .non => true
  | .bl a, .bl b => a == b
  | .bl a, .int b => (if a then 1 else 0) == b
  | .int a, .bl b => a == (if b then 1 else 0)
  | .int a, .int b => a == b
  | .str a, .str b => a == b
  | _, _ => false
theorem eqAt_V {A : Around} {s : Shared} {y x : V} {u v : Value} (ry : RelV y u) (rx : RelV x v) (fy : flatV y = true) (fx : flatV x = true) : SeqAt.EqAt A s u v (eqV y x) := by
  cases y with
  | non =>
    cases ry
    cases x with
    | non => cases rx; exact SeqAt.EqAt.same _
    | bl b => cases rx; exact SeqAt.EqAt.none_bool b
    | int b => obtain ⟨t, rfl⟩ := rx; exact SeqAt.EqAt.none_int b t
    | str b => obtain ⟨t, rfl⟩ := rx; exact SeqAt.EqAt.none_str b t
    | _ => exact absurd (show false = true from fx) Bool.false_ne_true
  | bl a =>
    cases ry
    cases x with
    | non => cases rx; exact SeqAt.EqAt.bool_none a
    | bl b => cases rx; exact SeqAt.EqAt.bool_bool a b
    | int b => obtain ⟨t, rfl⟩ := rx; exact SeqAt.EqAt.bool_int a b t
    | str b => obtain ⟨t, rfl⟩ := rx; exact SeqAt.EqAt.bool_str a b t
    | _ => exact absurd (show false = true from fx) Bool.false_ne_true
  | int a =>
    obtain ⟨t', rfl⟩ := ry
    cases x with
    | non => cases rx; exact SeqAt.EqAt.int_none a t'
    | bl b => cases rx; exact SeqAt.EqAt.int_bool a t' b
    | int b => obtain ⟨t, rfl⟩ := rx; exact SeqAt.EqAt.int_int a t' b t
    | str b => obtain ⟨t, rfl⟩ := rx; exact SeqAt.EqAt.int_str a t' b t
    | _ => exact absurd (show false = true from fx) Bool.false_ne_true
  | str a =>
    obtain ⟨t', rfl⟩ := ry
    cases x with
    | non => cases rx; exact SeqAt.EqAt.str_none a t'
    | bl b => cases rx; exact SeqAt.EqAt.str_bool a t' b
    | int b => obtain ⟨t, rfl⟩ := rx; exact SeqAt.EqAt.str_int a t' b t
    | str b => obtain ⟨t, rfl⟩ := rx; exact SeqAt.EqAt.str_str a t' b t
    | _ => exact absurd (show false = true from fx) Bool.false_ne_true
  | _ => exact absurd (show false = true from fy) Bool.false_ne_true
def eqU (x : V) (u : Value) : Bool := match u with
  | .none => eqV .non x
  | .bool b => eqV (.bl b) x
  | .int i _ => eqV (.int i) x
  | .str z _ => eqV (.str z) x
  | _ => false
theorem eqU_of {x y : V} {u : Value} (r : RelV y u) (f : flatV y = true) : eqU x u = eqV y x := by
  cases y with
  | non => cases r; rfl
  | bl b => cases r; rfl
  | int i => obtain ⟨t, rfl⟩ := r; rfl
  | str z => obtain ⟨t, rfl⟩ := r; rfl
  | _ => exact absurd (show false = true from f) Bool.false_ne_true
theorem any_eqU {x : V} : ∀ {xs : List V} {us : List Value}, Vals xs us → xs.all flatV = true → us.any (eqU x) = xs.any fun y => eqV y x
  | _, _, .nil, _ => rfl
  | y :: xs, u :: us, .cons r t, f => by
    rw [List.all_cons, Bool.and_eq_true] at f
    rw [List.any_cons, List.any_cons, eqU_of r f.1, any_eqU t f.2]
theorem mem_eqAt {A : Around} {s : Shared} {x : V} {v : Value} (rx : RelV x v) (fx : flatV x = true) : ∀ {xs : List V} {us : List Value}, Vals xs us → xs.all flatV = true → ∀ u ∈ us, SeqAt.EqAt A s u v (eqU x u)
  | _, _, .nil, _ => fun u hu => by cases hu
  | y :: xs, u :: us, .cons r t, f => fun u' hu => by
    rw [List.all_cons, Bool.and_eq_true] at f
    rcases List.mem_cons.mp hu with rfl | hu
    · rw [eqU_of r f.1]; exact eqAt_V r rx f.1 fx
    · exact mem_eqAt rx fx t f.2 u' hu
def inV (x : V) (xs : List V) : Bool := xs.any fun y => eqV y x
def rIn (K : Fg) (neg : Bool) : R2 := fun x y H Q => ∃ p xs, y = .ref p ∧ (SqL K H p xs ∨ SqT K H p xs) ∧ flatV x = true ∧ xs.all flatV = true ∧ Q (.bl (if neg then !inV x xs else inV x xs)) H
theorem op_notIn_seq : OpR X (compareOp .NotIn) (rIn X.K true) := by
  intro pins s σ H x y v u Q I rx ry h
  obtain ⟨p, xs, rfl, hq, fx, fs, q⟩ := h
  cases ry
  rcases hq with hq | hq
  · obtain ⟨its, r, pl, hz⟩ := I.list hq
    refine SeqAt.notIn_listAt (eqU x) pl.isList (fun w hw => mem_eqAt rx fx r fs w (by simpa using hw)) ⟨.bl _, H, I, rfl, ?_⟩
    rw [show its.toArray.any (eqU x) = its.any (eqU x) by simp, any_eqU r fs]
    exact q
  · obtain ⟨its, r, pl, hz⟩ := I.tuple hq
    refine SeqAt.notIn_tupleAt (eqU x) pl (fun w hw => mem_eqAt rx fx r fs w (by simpa using hw)) ⟨.bl _, H, I, rfl, ?_⟩
    rw [show its.toArray.any (eqU x) = its.any (eqU x) by simp, any_eqU r fs]
    exact q
theorem call_len_seq : CallR X (.builtin "len") (fun xs H Q => ∃ p ys, xs = [.ref p] ∧ (SqL X.K H p ys ∨ SqT X.K H p ys) ∧ Q (.int ys.length) H) := by
  intro pins s σ H xs us Q I r h
  obtain ⟨p, ys, rfl, hq, q⟩ := h
  obtain ⟨u, rfl, rx⟩ := vals1 r
  cases rx
  have hn := line63
  rcases hq with hq | hq
  · obtain ⟨its, r', pl, hz⟩ := I.list hq
    have hlen := r'.length
    exact Calls.call_len_list pl.isList (by simp only [List.size_toArray] <;> omega) ⟨.int ys.length, H, I.tok _, ⟨s.toks + 1, by rw [List.size_toArray, hlen]⟩, q⟩
  · obtain ⟨its, r', pl, hz⟩ := I.tuple hq
    have hlen := r'.length
    exact len_tuple pl (by simp only [List.size_toArray] <;> omega) ⟨.int ys.length, H, I.tok _, ⟨s.toks + 1, by rw [List.size_toArray, hlen]⟩, q⟩
theorem call_len_str : CallR X (.builtin "len") (fun xs H Q => ∃ z, xs = [.str z] ∧ z.length ≤ sizeLine ∧ Q (.int z.length) H) := by
  intro pins s σ H xs us Q I r h
  obtain ⟨z, rfl, hz, q⟩ := h
  obtain ⟨u, rfl, t, rfl⟩ := vals1 r
  have hn := line63
  exact len_str (by omega) ⟨.int z.length, H, I.tok _, ⟨_, rfl⟩, q⟩
theorem CallR.or {f : Value} {r r' : List V → Hp → VK → Prop} (h : CallR X f r) (h' : CallR X f r') : CallR X f (fun xs H Q => r xs H Q ∨ r' xs H Q) := by
  intro pins s σ H xs us Q I rs q
  rcases q with q | q
  · exact h pins s σ H xs us Q I rs q
  · exact h' pins s σ H xs us Q I rs q
theorem call_list_of : CallR X (.type "list") (fun xs H Q => ∃ p ys, xs = [.ref p] ∧ (SqL X.K H p ys ∨ SqT X.K H p ys) ∧ ∀ l, H l = none → Q (.ref l) (upd H l (.lst ys))) := by
  intro pins s σ H xs us Q I r h
  obtain ⟨p, ys, rfl, hq, q⟩ := h
  obtain ⟨u, rfl, rx⟩ := vals1 r
  cases rx
  have fin : ∀ (its : List Value), Vals ys its → ys.length ≤ sizeLine → ∀ (h' : Heap) (c' : Nat), (∀ b o', s.heap.get? b = some o' → h'.get? b = some o') →
      h'.get? s.heap.objs.size = some { cls := .type "list", dict := none, data := .seq its.toArray c', slots := #[] } → EP X pins σ Q (.ref s.heap.objs.size) { s with heap := h' } := fun its r' hz h' c' kp e =>
    ⟨.ref s.heap.objs.size, _, I.laid (t' := s.toks) kp (Nat.le_refl _) (show ObjOk X.prog X.w _ h' _ (.lst ys) from ⟨hz, its, c', r', e⟩), rfl, q _ (I.hok.fresh (Nat.le_refl _))⟩
  rcases hq with hq | hq
  · obtain ⟨its, r', pl, hz⟩ := I.list hq
    have hlen := r'.length
    obtain ⟨o, ho, hc, n, hd⟩ := pl.isList
    exact call_list_seq p (.inl rfl) ho hc hd (fun h' c' kp e => fin its r' hz h' c' kp e) (by simp only [List.size_toArray] <;> omega)
  · obtain ⟨its, r', pl, hz⟩ := I.tuple hq
    have hlen := r'.length
    obtain ⟨o, ho, hc, n, hd⟩ := pl
    exact call_list_seq p (.inr rfl) ho hc hd (fun h' c' kp e => fin its r' hz h' c' kp e) (by simp only [List.size_toArray] <;> omega)
theorem call_tuple_of : CallR X (.type "tuple") (fun xs H Q => ∃ p ys, xs = [.ref p] ∧ ((SqL X.K H p ys ∧ ∀ l, H l = none → Q (.ref l) (upd H l (.tup ys))) ∨ (SqT X.K H p ys ∧ Q (.ref p) H))) := by
  intro pins s σ H xs us Q I r h
  obtain ⟨p, ys, rfl, h⟩ := h
  obtain ⟨u, rfl, rx⟩ := vals1 r
  cases rx
  rcases h with ⟨hq, q⟩ | ⟨hq, q⟩
  · obtain ⟨its, r', pl, hz⟩ := I.list hq
    have hlen := r'.length
    refine call_tuple_list pl.isList (fun h' kp => ?_) (by simp only [List.size_toArray] <;> omega)
    have I1 : Inv X pins σ H { s with heap := h' } := I.kept (t' := s.toks) kp
    have I2 : Inv X pins σ (upd H h'.objs.size (.tup ys)) { s with heap := h'.push { cls := .type "tuple", data := .seq its.toArray } } :=
      I1.laid (t' := s.toks) (fun b o e => Heap.get?_push_of_some _ e) (Nat.le_refl _) (show ObjOk X.prog X.w _ _ _ (.tup ys) from ⟨hz, its, r', IsTup.new _ _⟩)
    exact ⟨.ref h'.objs.size, _, I2, rfl, q _ (I1.hok.fresh (Nat.le_refl _))⟩
  · obtain ⟨its, r', pl, hz⟩ := I.tuple hq
    exact call_tuple_same pl ⟨.ref p, H, I, rfl, q⟩
def tyV (K : Fg) (T : String) (x : V) (H : Hp) : Prop := match x with
  | .str _ => T = "str"
  | .int _ => T = "int"
  | .ref p => (T = "list" ∧ ∃ xs, SqL K H p xs) ∨ (T = "tuple" ∧ ∃ o, K.lookup p = some o ∧ o.cls = .type "tuple" ∧ o.dict = none) ∨
      (T = "dict" ∧ ((∃ kvs, H p = some (.dK kvs)) ∨ ∃ kvs, H p = some (.dT kvs))) ∨ (T = "set" ∧ ∃ S n, H p = some (.set S n))
  | _ => False
theorem tyV_is {pins : List (Addr × Obj)} {σ : St} {H : Hp} {s : Shared} {T : String} {x : V} {v : Value} (I : Inv X pins σ H s) (r : RelV x v) (ty : tyV X.K T x H) :
    s.TypeIs v T ∧ ∀ a, v = .ref a → ∃ ob, s.heap.get? a = some ob ∧ ob.dict = none := by
  cases x with
  | str z =>
    obtain ⟨t, rfl⟩ := r
    cases (show T = "str" from ty)
    exact ⟨typeIs_str s z t, fun _ e => nomatch e⟩
  | int i =>
    obtain ⟨t, rfl⟩ := r
    cases (show T = "int" from ty)
    exact ⟨typeIs_int s i t, fun _ e => nomatch e⟩
  | ref p =>
    cases r
    rcases ty with ⟨rfl, xs, hq⟩ | ⟨rfl, o, hk, hc, hd⟩ | ⟨rfl, hk⟩ | ⟨rfl, S, n, hk⟩
    · obtain ⟨its, _, pl, _⟩ := I.list hq
      refine ⟨pl.isList.typeIs, fun a e => ?_⟩
      cases e
      obtain ⟨o, n, e, c, hd, _⟩ := pl
      exact ⟨o, e, hd⟩
    · refine ⟨⟨o, I.kIn p o hk, hc⟩, fun a e => ?_⟩
      cases e
      exact ⟨o, I.kIn _ o hk, hd⟩
    · have z : ∃ o, s.heap.get? p = some o ∧ o.ExactDict := by
        rcases hk with ⟨kvs, hk⟩ | ⟨kvs, hk⟩
        · obtain ⟨_, _, _, _, o, _, _, e, ex, _⟩ := I.hok p _ hk
          exact ⟨o, e, ex⟩
        · obtain ⟨_, _, _, _, o, _, _, e, ex, _⟩ := I.hok p _ hk
          exact ⟨o, e, ex⟩
      obtain ⟨o, e, ex⟩ := z
      refine ⟨⟨o, e, ex.1⟩, fun a e2 => ?_⟩
      cases e2
      exact ⟨o, e, ex.2.1⟩
    · obtain ⟨o, _, _, _, e, ex, _⟩ := I.hok p _ hk
      refine ⟨⟨o, e, ex.1⟩, fun a e2 => ?_⟩
      cases e2
      exact ⟨o, e, ex.2.1⟩
  | _ => exact False.elim ty
def tBM (K : Fg) (T : String) (r : V → List V → Hp → VK → Prop) (to : TE) (t : TA) : TE := fun σ H Q => to σ H fun x H1 => tyV K T x H1 ∧ t σ H1 fun xs H2 => r x xs H2 Q
variable {o e : Expr} {es : List Expr} {to : TE} {t : TA} {name : Str} {apos cpos : Pos} {T id : String} {r : V → List V → Hp → VK → Prop}
theorem pe_bm (pa : PlainAttrs T) (slot : Slot T name id) (hty : typeOf (.builtin id) = pure (.type "method_descriptor")) (hm : MtR X id r) (ho : PE X o to) (ha : PA X (e :: es) t)
    (hbase : attributeBase o name X.env (eval o X.env) = eval o X.env := by rfl)
    (hfew : ((backTo cpos (starEach (e :: es) X.env)).all (fun x => !x.1) && (backToKw cpos (keywordEach [] X.env)).all (fun x => x.1.isSome)
      && decide ((e :: es).length + ([] : List Keyword).length + (if ([] : List Keyword).isEmpty then 0 else 1) < 30)) = true := by rfl)
    (hline : (apos.endLine == cpos.line) = true := by rfl) (hs : starEach (e :: es) X.env = (false, eval e X.env) :: starEach es X.env := by rfl) (hplain : (backTo cpos (starEach es X.env)).any (·.1) = false := by rfl) :
    PE X (.Call (.Attribute o name apos) (e :: es) [] cpos) (tBM X.K T r to t) := by
  intro pins s σ H Q I h
  refine wpAny_Call_method_late hbase hfew hline rfl (thn (ho pins s σ H _ I h) fun v s1 ⟨x, H1, I1, r1, ty, q1⟩ => ?_)
  obtain ⟨h1, h2⟩ := tyV_is I1 r1 ty
  refine ⟨T, id, pa, slot, hty, h1, h2, ?_⟩
  have hA := ha cpos pins s1 σ H1 _ I1 q1
  rw [hs] at hA ⊢
  refine Calls.callWith_builtin (by show (false || (backTo cpos (starEach es X.env)).any (·.1)) = false; rw [hplain] <;> rfl) (Calls.evalArgs_plain ?_)
  exact thn hA fun us s2 ⟨vs, H2, I2, r2, q2⟩ => hm pins s2 σ H2 x vs v us Q I2 r1 r2 q2
end
end L2
namespace L2
open PySem PySem.Spec PyProof.Rows
def MtM (X : Cx) (id : String) (r : V → List V → Hp → VK → Prop) : Prop :=
  ∀ (pins : List (Addr × Obj)) (s : Shared) (σ : St) (H : Hp) (x : V) (xs : List V) (v : Value) (us : List Value) (Q : VK), Inv X pins σ H s → RelV x v → Vals xs us → r x xs H Q →
    wpAny (model X.prog X.w) X.A (call (.builtin id) (v :: us)) (EP X pins σ Q) X.xe s
theorem Vals.one : ∀ {x : V} {us : List Value}, Vals [x] us → ∃ u, us = [u] ∧ RelV x u
  | _, _, .cons r .nil => ⟨_, rfl, r⟩
theorem Vals.two : ∀ {x y : V} {us : List Value}, Vals [x, y] us → ∃ u v, us = [u, v] ∧ RelV x u ∧ RelV y v
  | _, _, _, .cons r (.cons q .nil) => ⟨_, _, rfl, r, q⟩
section
variable {X : Cx} {pins : List (Addr × Obj)} {σ : St} {H : Hp} {s : Shared} {l b : Addr} {xs ys zs : List V}
theorem Inv.lset {its its' : List Value} {n : Nat} {f : Array Value → Array Value} {t' : Nat} (I : Inv X pins σ H s) (hH : H l = some (.lst xs))
    (e : s.heap.get? l = some { cls := .type "list", data := .seq its.toArray n }) (hf : f its.toArray = its'.toArray) (hv : Vals ys its') (hz : ys.length ≤ sizeLine) :
    Inv X pins σ (upd H l (.lst ys)) { s with heap := s.heap.update l (Obj.mapSeq f), toks := t' } := by
  have q := PySem.IsL.update e f
  rw [hf] at q
  refine I.write (x := l) (e := l) (by rw [hH]; exact trivial) (.inl rfl) (fun b' u hb hu => (Heap.get?_update_other s.heap (Obj.mapSeq f) (Ne.symm hb)).trans hu) ⟨_, q⟩ ?_
  exact ⟨hz, its', _, hv, q⟩
theorem Inv.lnew {its : List Value} {t' : Nat} (I : Inv X pins σ H s) (hv : Vals ys its) (hz : ys.length ≤ sizeLine) :
    Inv X pins σ (upd H s.heap.objs.size (.lst ys)) { s with heap := s.heap.push { cls := .type "list", data := .seq its.toArray }, toks := t' } :=
  I.laid (fun _ _ q => Heap.get?_push_of_some _ q) (Nat.le_refl _) ⟨hz, its, 0, hv, Heap.get?_push_size _ rfl⟩
theorem Inv.fresh (I : Inv X pins σ H s) : H s.heap.objs.size = none := I.hok.fresh (Nat.le_refl _)
theorem Inv.lstM (I : Inv X pins σ H s) (hH : H l = some (.lst xs)) : xs.length ≤ sizeLine ∧ ∃ (its : List Value) (n : Nat), Vals xs its ∧ xs.length = its.length ∧ s.heap.get? l = some { cls := .type "list", data := .seq its.toArray n } := by
  obtain ⟨z, its, n, r, e⟩ := I.hok l _ hH
  exact ⟨z, its, n, r, r.length, e⟩
end
section
variable {X : Cx}
def rAppend : V → List V → Hp → VK → Prop := fun x vs H Q => ∃ l xs y, x = .ref l ∧ vs = [y] ∧ H l = some (.lst xs) ∧ xs.length < sizeLine ∧ Q .non (upd H l (.lst (xs ++ [y])))
theorem mt_append : MtM X "list.append" rAppend := by
  intro pins s σ H x vs v us Q I rx rv h
  obtain ⟨l, xs, y, rfl, rfl, hH, hz, q⟩ := h
  cases rx
  obtain ⟨u, rfl, ru⟩ := rv.one
  obtain ⟨z, its, n, r, hl, e⟩ := I.lstM hH
  refine call_meets F.slot_list_append ⟨_, e, rfl⟩ F.entry_list_append (F.args_list_append_2 _ _) (PySem.list_append l its.toArray n u (by rw [List.size_toArray]; omega)) ⟨e, ?_⟩
  refine ⟨.non, _, I.lset (its' := its ++ [u]) hH e (by simp) (r.append (.cons ru .nil)) ?_, rfl, q⟩
  rw [List.length_append, List.length_singleton]
  omega
end
end L2
namespace Att
open PySem PySem.W PySem.Calls PyProof.Rows
theorem ints_of_wellAll {P : Params} {h : Heap} : ∀ (ns : List Int) (vs : List Value), WellAll P h vs (ns.map WData.int) → IntsAre vs ns := by
  intro ns
  induction ns with
  | nil =>
    intro vs w
    rw [List.map_nil] at w
    cases w
    exact .nil
  | cons n ns ih =>
    intro vs w
    rw [List.map_cons] at w
    cases w with
    | cons a b =>
      cases a
      exact .cons _ _ (ih _ b)
theorem script_of {l : OpenLaw} {n : Nat} (hn : l.most = some n) {P : Params} {h : Heap} {args : List WData} {vals : List Value}
    (hpre : l.row.toRowW.claim.pre args = true) (hwl : WellAll P h vals args) :
    ∃ a vs ns, vals = [Value.ref a] ∧ args = [WData.list (ns.map WData.int)] ∧ h.get? a = some { cls := .type "list", data := .seq vs.toArray } ∧ IntsAre vs ns ∧ ns.length ≤ n := by
  have hsh : WShape.hasAll [] args [.list .int] = true := (pre_splitW hpre).1
  have hc : l.pre.holds [] { args := args } = true := (pre_splitW hpre).2
  obtain ⟨d, r, rfl, h1, h2⟩ := hasAllW_cons hsh
  obtain rfl := hasAllW_nil h2
  obtain ⟨xs, rfl, h3⟩ := hasW_list h1
  obtain ⟨ns, rfl⟩ := items_int h3
  have hlen : ns.length ≤ n := by
    unfold OpenLaw.pre at hc
    have h4 : (WTm.not (.lt (.lit (.int (n : Int))) (.len (.arg 0)))).holds [] { args := [.list (ns.map .int)] } = true := by
      have h4 := (holds_andW hc).1
      rw [hn] at h4
      exact h4
    have h5 := condW_of h4 (w_not (w_lt w_lit (w_len_list (w_arg rfl))))
    rw [List.length_map] at h5
    refine Nat.le_of_not_lt fun q => ?_
    have q' : (n : Int) < ((ns.length : Nat) : Int) := by omega
    first
      | (rw [decide_eq_true q'] at h5; exact absurd h5 (by decide))
      | (simp at h5; omega)
  cases hwl with
  | cons w1 w2 =>
    cases w2
    cases w1 with
    | list ho hall => exact ⟨_, _, ns, rfl, rfl, ho, ints_of_wellAll ns _ hall, hlen⟩
theorem post_true (l : OpenLaw) (args : List WData) : l.row.toRowW.claim.post args (.bool true) args = true :=
  postW_of (r := l.row.toRowW) (X := (true == true))
    (show WShape.has [] (.bool true) .bool = true by first | rfl | decide | simp [WShape.has, WShape.arms, WShape.armsAll])
    (show (WTm.eq .res (.lit (.bool true))).value [] { args := args, res := some (.bool true), after := args } = some (.bool (true == true)) from w_eq_bool (w_res rfl) w_lit) rfl
theorem attach_call {l : OpenLaw} {n : Nat} {q : Program} {loose : List Str} {XP : (Str → Option Value) → Heap → Prop} {YP : World → Heap → Prop} {d : DefRec}
    (hn : l.most = some n) (hdf : d.params.defaults = [])
    (call : ∀ (w : World) (s₀ s₁ : Shared) (mg mb : Str → Option Value) (fa : Addr) (o : Obj) (pm cd doc : Value) (a : Addr) (vs : List Value) (ns : List Int),
      Ground q loose [] XP w s₀ mg mb s₁.heap → YP w s₁.heap →
      s₁.heap.get? fa = some o → o.data = .func (docDef d.name d.params d.body d.scope pm cd doc) → s₁.heap.CodeRec cd d.name → mg d.name = some (.ref fa) →
      s₁.heap.get? a = some { cls := .type "list", data := .seq vs.toArray } → IntsAre vs ns → ns.length ≤ n → s₁.gens = #[] →
      codeAny (model l.prog w) callerA (.call (.ref fa) ⟨[.ref a], []⟩) (fun r s' => r = .ok (.ret (.bool true)) ∧ OldK s₁.heap s'.heap ∧ s'.os = s₁.os ∧ AllBare s'.gens) s₁) :
    WalkO q loose XP YP l.row.toRowW d [] (fun f vs => PySem.call f vs) := by
  intro w s₀ s₁ mg mb G Y fa o pm cd doc dV kV ho hd hcd hD hmg hg args vals as hpre hlay hrd hwl hlo
  obtain rfl : dV = .none := Dflts.none hD hdf
  obtain rfl : kV = .none := Dflts.noKw hD
  obtain ⟨a, vs, ns, rfl, rfl, hobj, hints, hlen⟩ := script_of hn hpre hwl
  refine enter_call (codeAny_mono (call w s₀ s₁ mg mb fa o pm cd doc a vs ns G Y ho (fd_plain hd) hcd hmg hobj hints hlen hg) fun r s' hq => ?_)
  obtain ⟨rfl, h2, h3, h4⟩ := hq
  exact ⟨.inl ⟨.bool true, .bool true, [], rfl, fun _ => rfl, .bool true, post_true l _, fun _ => ⟨List.Pairwise.nil, fun _ hm => (nomatch hm)⟩⟩, h2, h3, h4⟩
end Att
namespace L2
open PySem PySem.Spec PyProof.Rows
theorem vals_ints : ∀ {vs : List Value} {ns : List Int}, IntsAre vs ns → Vals (ns.map V.int) vs
  | _, _, .nil => .nil
  | _, _, .cons n t h => .cons ⟨t, rfl⟩ (vals_ints h)
def Only (H : Hp) : Prop := ∀ b, H b = none ∨ ∃ o xs, H b = some (.frz o (.lst xs))
theorem law_call {P : Program} {w : World} {K : Fg} {mg mb : Str → Option Value} {CX : CXT} {k : Nat} {fa a : Addr} {fd : FuncData} {x : Str} {sp : Sp} {s₁ : Shared} {vs : List Value} {ns : List Int}
    (KX : K.In s₁.heap) (hns : s₁.heap.Ns mainGlobals mg) (hb : s₁.heap.Ns builtinsNs mb) (hbb : ∀ x : Str, x ≠ "__name__" → mb x = bootBuiltins x) (hlim : s₁.heap.NoLimit) (hg : s₁.gens = #[])
    (ha : s₁.heap.get? a = some { cls := .type "list", data := .seq vs.toArray }) (hi : IntsAre vs ns) (hl : ns.length ≤ sizeLine) (hr : Room k callerA)
    (F : ∀ base : Heap, K.In base → base.Ns mainGlobals mg → FnOk P w K mg base CX k fa fd [x] sp) (hbind : ∀ (s : Shared) (u : Value), BindsTo s fd ⟨[u], []⟩ [(x, u)])
    (hsp : ∀ H : Hp, Only H → SqL K H a (ns.map V.int) → sp [.ref a] H (fun v _ => v = .bl true) fun _ _ _ => False)
    (hCX : ∀ H e s', CX [] H s₁ (fun _ _ _ => False) e s' → False) :
    codeAny (model P w) callerA (.call (.ref fa) ⟨[.ref a], []⟩) (fun r s' => r = .ok (.ret (.bool true)) ∧ OldK s₁.heap s'.heap ∧ s'.os = s₁.os ∧ AllBare s'.gens) s₁ := by
  have rv := vals_ints hi
  have lenV := hi.length
  have core : ∀ H : Hp, Only H → SqL K H a (ns.map V.int) → HOk P w H s₁.heap → (∀ b, H b ≠ none → b = a) → (H a ≠ none → K.lookup a = none) →
      codeAny (model P w) callerA (.call (.ref fa) ⟨[.ref a], []⟩) (fun r s' => r = .ok (.ret (.bool true)) ∧ OldK s₁.heap s'.heap ∧ s'.os = s₁.os ∧ AllBare s'.gens) s₁ := by
    intro H hO hS hok hA hK
    have base_of : ∀ {b : Addr} {o : Obj}, s₁.heap.get? b = some o → H b = none → (hidT s₁.heap H).get? b = some o := fun e n => hidT_get e n
    have noA : ∀ {b : Addr} {o : Obj} {es : Array DictEntry} {ep : Nat}, s₁.heap.get? b = some o → o.data = .dict es ep → H b = none := fun {b o es ep} e d => by
      cases q : H b with
      | none => rfl
      | some u =>
        have e' : b = a := hA b (by rw [q]; simp)
        subst e'
        rw [ha] at e; cases e
        have d' : Data.seq vs.toArray _ = Data.dict es ep := d
        cases d'
    have nsK : ∀ {b : Addr} {m : Str → Option Value}, s₁.heap.Ns b m → (hidT s₁.heap H).Ns b m := fun {b m} ⟨o, es, ep, e, d, r⟩ => ⟨o, es, ep, base_of e (noA e d), d, r⟩
    have hKb : K.In (hidT s₁.heap H) := fun b o e => base_of (KX b o e) (by
      cases q : H b with
      | none => rfl
      | some u =>
        have e' : b = a := hA b (by rw [q]; simp)
        subst e'
        rw [hK (by rw [q]; simp)] at e; cases e)
    have hM : Mod K mg (hidT s₁.heap H) := ⟨hKb, nsK hns, ⟨mb, nsK hb, hbb⟩, let ⟨mc, h1, h2⟩ := hlim; ⟨mc, nsK h1, h2⟩⟩
    have e0 : Env0 P w K mg (hidT s₁.heap H) callerA [] s₁ H := ⟨rfl, hM, fun b o e => of_hidT e, Nat.le_of_eq (hidT_size _ _), trivial, fun b hb => absurd (show b ∈ ([] : List Addr) from hb) (by simp), hok, .of_eq hg⟩
    refine codeAny_mono ((F _ hKb (nsK hns)).run callerA [] s₁ H ⟨[.ref a], []⟩ [.ref a] [.ref a] _ _ hr e0 (hbind s₁ (.ref a)) (.cons rfl .nil) (hsp H hO hS)) fun r s' h => ?_
    cases r with
    | error e => exact (hCX H e s' h).elim
    | ok fl =>
      cases fl with
      | next => exact False.elim h
      | brk => exact False.elim h
      | cont => exact False.elim h
      | ret u =>
        obtain ⟨v, H', os, bare, un, hok', r', q⟩ := h
        have q' : v = .bl true := q
        subst q'
        obtain rfl : u = Value.bool true := r'
        refine ⟨rfl, OldK.of_keep fun b o e => ?_, os, bare⟩
        cases q : H b with
        | none => exact un.keep b o e q (by intro z; exact absurd (show b ∈ ([] : List Addr) from z) (by simp)) (by simp)
        | some u =>
          rcases hO b with z | ⟨ob, xs, z⟩
          · rw [q] at z; cases z
          · have z2 := un.frzs b ob _ z
            obtain ⟨e1, _⟩ := hok b _ z
            obtain ⟨e2, _⟩ := hok' b _ z2
            rw [e] at e1; cases e1
            exact e2
  cases hk : K.lookup a with
  | some o =>
    have e := KX a o hk
    rw [ha] at e
    cases e
    refine core (fun _ => none) (fun _ => .inl rfl) (.inr ⟨_, vs.toArray, _, hk, rfl, rfl, rfl, by rw [List.size_toArray, lenV]; exact hl, by simpa using rv⟩) (fun b u z => by have z' : (none : Option HO) = some u := z; cases z') (fun b z => absurd rfl z) fun z => absurd rfl z
  | none =>
    refine core (fun b => if b = a then some (.frz { cls := .type "list", data := .seq vs.toArray } (.lst (ns.map V.int))) else none) (fun b => ?_) (.inl (.inr ⟨{ cls := .type "list", data := .seq vs.toArray }, if_pos rfl⟩)) (fun b u z => ?_) (fun b z => ?_) fun _ => hk
    · by_cases hb : b = a
      · exact .inr ⟨_, _, if_pos hb⟩
      · exact .inl (if_neg hb)
    · by_cases hb : b = a
      · have z' := (if_pos hb).symm.trans z
        cases z'
        subst hb
        exact ⟨ha, by rw [List.length_map]; exact hl, vs, _, rv, ha⟩
      · have z' := (if_neg hb).symm.trans z
        cases z'
    · by_cases hb : b = a
      · exact hb
      · exact absurd (if_neg hb) z
end L2
namespace L2
open PySem PySem.Spec PyProof.Rows
theorem walk_of {l : PySem.W.OpenLaw} {n k : Nat} {q : Program} {loose : List Str} {XP : (Str → Option Value) → Heap → Prop} {YP : World → Heap → Prop} {d : DefRec} {K : Params → Fg} {CX : World → CXT} {sp : World → Sp} {x : Str}
    (hn : l.most = some n) (hn2 : n ≤ sizeLine) (hdf : d.params.defaults = []) (hr : Room k callerA)
    (hY : ∀ (w : World) (h : Heap), YP w h → (K w.params).In h)
    (F : ∀ (w : World) (mg : Str → Option Value) (fa : Addr) (h : Heap), (K w.params).In h → h.Ns mainGlobals mg → mg d.name = some (.ref fa) →
      ∃ fd : FuncData, (∀ (s : Shared) (u : Value), BindsTo s fd ⟨[u], []⟩ [(x, u)]) ∧
        ∀ base : Heap, (K w.params).In base → base.Ns mainGlobals mg → FnOk l.prog w (K w.params) mg base (CX w) k fa fd [x] (sp w))
    (hsp : ∀ (w : World) (H : Hp) (a : Addr) (ns : List Int), ns.length ≤ n → Only H → SqL (K w.params) H a (ns.map V.int) → sp w [.ref a] H (fun v _ => v = .bl true) fun _ _ _ => False)
    (hCX : ∀ (w : World) (H : Hp) (s : Shared) (e : Value) (s' : Shared), CX w [] H s (fun _ _ _ => False) e s' → False) :
    PySem.W.WalkO q loose XP YP l.row.toRowW d [] (fun f vs => PySem.call f vs) := by
  refine Att.attach_call hn hdf fun w s₀ s₁ mg mb fa o pm cd doc a vs ns G Y ho hd hcd hmg hobj hints hlen hg => ?_
  have KX := hY w _ Y
  obtain ⟨fd, hb, hF⟩ := F w mg fa _ KX G.T.g hmg
  exact law_call KX G.T.g G.T.b G.T.builtins G.T.nolimit hg hobj hints (Nat.le_trans hlen hn2) hr hF hb (fun H hO hS => hsp w H a ns hlen hO hS) fun H e s' => hCX w H s₁ e s'
theorem walk_ofK {l : PySem.W.OpenLaw} {n k : Nat} {q : Program} {loose : List Str} {XP : (Str → Option Value) → Heap → Prop} {YP : World → Heap → Prop} {d : DefRec} {K : Params → Fg} {CX : CXT} {sp : Fg → Sp} {x : Str}
    (hn : l.most = some n) (hn2 : n ≤ sizeLine) (hdf : d.params.defaults = []) (hr : Room k callerA)
    (hY : ∀ (w : World) (h : Heap), YP w h → (K w.params).In h)
    (F : ∀ (w : World) (mg : Str → Option Value) (fa : Addr) (h : Heap), (K w.params).In h → h.Ns mainGlobals mg → mg d.name = some (.ref fa) →
      ∃ fd : FuncData, (∀ (s : Shared) (u : Value), BindsTo s fd ⟨[u], []⟩ [(x, u)]) ∧
        ∀ base : Heap, (K w.params).In base → base.Ns mainGlobals mg → FnOk l.prog w (K w.params) mg base CX k fa fd [x] (sp (K w.params)))
    (hsp : ∀ (K : Fg) (H : Hp) (a : Addr) (ns : List Int), ns.length ≤ n → Only H → SqL K H a (ns.map V.int) → sp K [.ref a] H (fun v _ => v = .bl true) fun _ _ _ => False)
    (hCX : ∀ (H : Hp) (s : Shared) (e : Value) (s' : Shared), CX [] H s (fun _ _ _ => False) e s' → False) :
    PySem.W.WalkO q loose XP YP l.row.toRowW d [] (fun f vs => PySem.call f vs) :=
  walk_of (K := K) (CX := fun _ => CX) (sp := fun w => sp (K w.params)) hn hn2 hdf hr hY F (fun w H a ns h1 h2 h3 => hsp (K w.params) H a ns h1 h2 h3) fun _ H s e s' => hCX H s e s'
end L2
namespace L2
open PySem PySem.Spec PyProof.Rows
def defArgs (s : Stmt) : Arguments := match s with
  | .FunctionDef _ a _ _ _ _ _ _ _ _ => a
  | _ => { posonlyargs := [], args := [], vararg := none, kwonlyargs := [], kw_defaults := [], kwarg := none, defaults := [] }
def defBody (s : Stmt) : List Stmt := match s with
  | .FunctionDef _ _ b _ _ _ _ _ _ _ => b
  | _ => []
def defScope (s : Stmt) : Scope := match s with
  | .FunctionDef _ _ _ _ _ _ sc _ _ _ => sc
  | _ => { kind := .function, names := [], isGenerator := false, isCoroutine := false }
abbrev CX0 : CXT := fun _ _ _ _ _ _ => False
abbrev E0 : XK := fun _ _ _ => False
theorem pass0 {X : Cx} : Passes CX0 X E0 := fun _ _ _ _ _ _ _ h => h.elim
structure Fun (K : Fg) (x qual : Str) (st : Stmt) (f : Addr) (fd : FuncData) : Prop where
  ex : ∃ (oc : Value) (od : Option Addr) (kV doc pm : Value) (an : Option Addr) (cdv ct : Value) (osl : Array (Option Value)),
    fd = PySem.W.fnOf x qual (defArgs st) (defBody st) (defScope st) .none kV doc pm an cdv ct ∧ K.lookup f = some ⟨oc, od, .func fd, osl⟩ ∧ PySem.W.codeIn K cdv qual = true
  kp : PySem.W.keepIn K (.ref f) = true
section
variable {P : Program} {w : World} {K : Fg} {mg : Str → Option Value} {base : Heap}
theorem Fun.ok {x qual : Str} {st : Stmt} {f : Addr} {fd : FuncData} {N ps : List Str} {k : Nat} {sp : Sp} (F : Fun K x qual st f fd) (S : FnScope N ps (defScope st)) (len : ∀ vs H Q E, sp vs H Q E → vs.length = ps.length)
    (hbody : ∀ (cdv : Value) (A : Around) (outer : List Env) (s : Shared) (H : Hp) (vs : List V) (Q : VK) (E : XK), Room k (A.deeper (envOfC qual (defScope st) s.heap.objs.size f cdv)) → sp vs H Q E →
      ∃ t, PSs (cxOf CX0 P w K mg base N qual (defScope st) f cdv A outer s H E).nox (defBody st) t ∧ t { nx := fun _ H' => Q .non H', rt := Q } (start N vs) H) : FnOk P w K mg base CX0 (k + 1) f fd ps sp := by
  obtain ⟨oc, od, kV, doc, pm, an, cdv, ct, osl, rfl, lk, hcd⟩ := F.ex
  refine fn_of lk hcd S len fun A outer s H vs Q E hr hsp => ?_
  obtain ⟨t, h, q⟩ := hbody cdv A outer s H vs Q E hr hsp
  exact ⟨t, h.nox, q⟩
theorem Fun.binds {x qual : Str} {st : Stmt} {f : Addr} {fd : FuncData} {ps : List Str} (F : Fun K x qual st f fd)
    (h : ∀ (kV doc pm : Value) (an : Option Addr) (cdv ct : Value) (us : List Value), us.length = ps.length → bindArgs (PySem.W.fnOf x qual (defArgs st) (defBody st) (defScope st) .none kV doc pm an cdv ct) ⟨us, []⟩ = pure (ps.zip us)) : Binds K fd ps [] := by
  obtain ⟨oc, od, kV, doc, pm, an, cdv, ct, osl, rfl, lk, hcd⟩ := F.ex
  exact .all (h kV doc pm an cdv ct)
theorem fun_mk {x qual : Str} {st : Stmt} {f : Addr} {oc : Value} {od an : Option Addr} {osl : Array (Option Value)} {kV doc pm cdv ct : Value} (l : K.lookup f = some ⟨oc, od, .func (PySem.W.fnOf x qual (defArgs st) (defBody st) (defScope st) .none kV doc pm an cdv ct), osl⟩)
    (c : PySem.W.codeIn K cdv qual = true) (k : PySem.W.keepIn K (.ref f) = true) : Fun K x qual st f (PySem.W.fnOf x qual (defArgs st) (defBody st) (defScope st) .none kV doc pm an cdv ct) := ⟨⟨oc, od, kV, doc, pm, an, cdv, ct, osl, rfl, l, c⟩, k⟩
end
section
variable {X : Cx}
theorem pv (i : Nat) {x : Str} {pos : Pos} (hN : X.N[i]? = some x := by rfl) (hv : Vis X.env.scope x := by first | exact Or.inl rfl | exact Or.inr (Or.inl rfl) | exact Or.inr (Or.inr rfl)) (hd : (x == ("__debug__" : Str)) = false := by decide)
    (hcd : (x == ("__classdict__" : Str)) = false := by decide) : PE X (.Name x pos) (tVar i) := pe_var hN hv hd hcd
end
theorem iteF {A B : Prop} (h : B) : if false = true then A else B := by
  rw [if_neg Bool.false_ne_true]
  exact h
theorem iteT {A B : Prop} (h : A) : if true = true then A else B := by
  rw [if_pos rfl]
  exact h
def Same (H H' : Hp) : Prop := ∀ b o, H b = some o → H' b = some o
theorem Same.refl (H : Hp) : Same H H := fun _ _ h => h
theorem Same.trans {H H1 H2 : Hp} (a : Same H H1) (b : Same H1 H2) : Same H H2 := fun c o h => b c o (a c o h)
theorem Same.free {H H' : Hp} (e : Same H H') {l : Addr} (h : H' l = Option.none) : H l = Option.none := by
  cases q : H l with
  | none => rfl
  | some o =>
    rw [e l o q] at h
    cases h
end L2
namespace DD
open PySem PySem.Spec PyProof.Rows L2
abbrev St := L2.St
inductive D where
  | non | bl (b : Bool) | int (i : Int) | str (s : List Nat) | tup (l : List D) | lst (l : List D) | ty (n : String) | ref (a : Addr)
def LsAt (K : Fg) (O : Addr → Prop) (H : Hp) (a : Addr) (xs : List V) : Prop :=
  (¬ O a ∧ Rd H a (.lst xs)) ∨ ∃ (o : Obj) (its : Array Value) (n : Nat), K.lookup a = some o ∧ o.cls = .type "list" ∧ o.dict = none ∧ o.data = .seq its n ∧ its.size ≤ sizeLine ∧ Vals xs its.toList
theorem LsAt.sq {K : Fg} {O : Addr → Prop} {H : Hp} {a : Addr} {xs : List V} (h : LsAt K O H a xs) : SqL K H a xs := h.imp (·.2) id
mutual
def Is (K : Fg) (O : Addr → Prop) (H : Hp) : D → V → Prop
  | .non, v => v = .non
  | .bl b, v => v = .bl b
  | .int i, v => v = .int i
  | .str s, v => v = .str ⟨s.toArray⟩
  | .ty n, v => v = .ty n
  | .ref a, v => v = .ref a
  | .tup l, v => ∃ a xs, v = .ref a ∧ SqT K H a xs ∧ IsL K O H l xs
  | .lst l, v => ∃ a xs, v = .ref a ∧ LsAt K O H a xs ∧ IsL K O H l xs
def IsL (K : Fg) (O : Addr → Prop) (H : Hp) : List D → List V → Prop
  | [], vs => vs = []
  | d :: l, vs => ∃ v r, vs = v :: r ∧ Is K O H d v ∧ IsL K O H l r
end
def OLst (O : Addr → Prop) (H : Hp) : Prop := ∀ a, O a → ∃ xs, H a = some (.lst xs)
def Keep (O : Addr → Prop) (H H' : Hp) : Prop := ∀ b o, H b = some o → ¬ O b → H' b = some o
theorem Rd.some {H : Hp} {a : Addr} {u : HO} (h : Rd H a u) : ∃ o, H a = some o := by
  rcases h with h | ⟨o, h⟩
  · exact ⟨_, h⟩
  · exact ⟨_, h⟩
theorem SqT.keep {K : Fg} {O : Addr → Prop} {H H' : Hp} {a : Addr} {xs : List V} (k : Keep O H H') (o : OLst O H) (h : SqT K H a xs) : SqT K H' a xs := by
  rcases h with (h | ⟨ob, h⟩) | h
  · exact .inl (.inl (k _ _ h fun z => by obtain ⟨ys, q⟩ := o a z; rw [h] at q; cases q))
  · exact .inl (.inr ⟨ob, k _ _ h fun z => by obtain ⟨ys, q⟩ := o a z; rw [h] at q; cases q⟩)
  · exact .inr h
theorem Rd.keep {O : Addr → Prop} {H H' : Hp} {a : Addr} {u : HO} (k : Keep O H H') (n : ¬ O a) (h : Rd H a u) : Rd H' a u := by
  rcases h with h | ⟨ob, h⟩
  · exact .inl (k _ _ h n)
  · exact .inr ⟨ob, k _ _ h n⟩
mutual
theorem Is.mono {K : Fg} {O O' : Addr → Prop} {H H' : Hp} (k : Keep O H H') (ol : OLst O H) (oo : ∀ a, O' a → H a ≠ none → O a) : ∀ (d : D) (v : V), Is K O H d v → Is K O' H' d v
  | .non, v, h => by unfold Is at h ⊢; exact h
  | .bl b, v, h => by unfold Is at h ⊢; exact h
  | .int i, v, h => by unfold Is at h ⊢; exact h
  | .str s, v, h => by unfold Is at h ⊢; exact h
  | .ty n, v, h => by unfold Is at h ⊢; exact h
  | .ref a, v, h => by unfold Is at h ⊢; exact h
  | .tup l, v, h => by
    unfold Is at h ⊢
    obtain ⟨a, xs, e, q, r⟩ := h
    exact ⟨a, xs, e, SqT.keep k ol q, IsL.mono k ol oo l xs r⟩
  | .lst l, v, h => by
    unfold Is at h ⊢
    obtain ⟨a, xs, e, nq, r⟩ := h
    refine ⟨a, xs, e, ?_, IsL.mono k ol oo l xs r⟩
    rcases nq with ⟨n, q⟩ | q
    · exact .inl ⟨fun z => n (oo a z (by obtain ⟨o, q⟩ := Rd.some q; rw [q]; simp)), Rd.keep k n q⟩
    · exact .inr q
theorem IsL.mono {K : Fg} {O O' : Addr → Prop} {H H' : Hp} (k : Keep O H H') (ol : OLst O H) (oo : ∀ a, O' a → H a ≠ none → O a) : ∀ (l : List D) (vs : List V), IsL K O H l vs → IsL K O' H' l vs
  | [], vs, h => by unfold IsL at h ⊢; exact h
  | d :: l, vs, h => by
    unfold IsL at h ⊢
    obtain ⟨v, r, e, h1, h2⟩ := h
    exact ⟨v, r, e, Is.mono k ol oo d v h1, IsL.mono k ol oo l r h2⟩
end
theorem Same.kp {H H' : Hp} (s : Same H H') (O : Addr → Prop) : Keep O H H' := fun b o e _ => s b o e
theorem Is.same {K : Fg} {O : Addr → Prop} {H H' : Hp} {d : D} {v : V} (s : Same H H') (ol : OLst O H) (h : Is K O H d v) : Is K O H' d v := Is.mono (Same.kp s O) ol (fun _ z _ => z) d v h
theorem IsL.same {K : Fg} {O : Addr → Prop} {H H' : Hp} {l : List D} {vs : List V} (s : Same H H') (ol : OLst O H) (h : IsL K O H l vs) : IsL K O H' l vs := IsL.mono (Same.kp s O) ol (fun _ z _ => z) l vs h
section
variable {K : Fg} {O : Addr → Prop} {H : Hp}
theorem IsL.length : ∀ {l : List D} {vs : List V}, IsL K O H l vs → l.length = vs.length
  | [], vs, h => by unfold IsL at h; subst h; rfl
  | d :: l, vs, h => by unfold IsL at h; obtain ⟨v, r, rfl, _, h2⟩ := h; simp [IsL.length h2]
theorem IsL.get : ∀ {l : List D} {vs : List V} {i : Nat} {d : D}, IsL K O H l vs → l[i]? = some d → ∃ v, vs[i]? = some v ∧ Is K O H d v
  | [], _, _, _, _, e => by simp at e
  | d :: l, vs, 0, d', h, e => by
    unfold IsL at h; obtain ⟨v, r, rfl, h1, h2⟩ := h
    simp at e; subst e; exact ⟨v, rfl, h1⟩
  | d :: l, vs, i + 1, d', h, e => by
    unfold IsL at h; obtain ⟨v, r, rfl, h1, h2⟩ := h
    obtain ⟨u, q1, q2⟩ := IsL.get (i := i) h2 (by simpa using e)
    exact ⟨u, by simpa using q1, q2⟩
theorem IsL.nil : IsL K O H [] [] := by unfold IsL; rfl
theorem IsL.cons {d : D} {v : V} {l : List D} {vs : List V} (h : Is K O H d v) (t : IsL K O H l vs) : IsL K O H (d :: l) (v :: vs) := by unfold IsL; exact ⟨v, vs, rfl, h, t⟩
theorem IsL.append : ∀ {l m : List D} {vs us : List V}, IsL K O H l vs → IsL K O H m us → IsL K O H (l ++ m) (vs ++ us)
  | [], _, _, _, h, t => by unfold IsL at h; subst h; exact t
  | d :: l, m, vs, us, h, t => by unfold IsL at h; obtain ⟨v, r, rfl, h1, h2⟩ := h; exact .cons h1 (IsL.append h2 t)
theorem IsL.take : ∀ {l : List D} {vs : List V} (n : Nat), IsL K O H l vs → IsL K O H (l.take n) (vs.take n)
  | _, _, 0, _ => by simpa using IsL.nil
  | [], _, _ + 1, h => by unfold IsL at h; subst h; simpa using IsL.nil
  | d :: l, vs, n + 1, h => by unfold IsL at h; obtain ⟨v, r, rfl, h1, h2⟩ := h; exact .cons h1 (IsL.take n h2)
theorem IsL.drop : ∀ {l : List D} {vs : List V} (n : Nat), IsL K O H l vs → IsL K O H (l.drop n) (vs.drop n)
  | _, _, 0, h => h
  | [], _, _ + 1, h => by unfold IsL at h; subst h; simpa using IsL.nil
  | d :: l, vs, n + 1, h => by unfold IsL at h; obtain ⟨v, r, rfl, h1, h2⟩ := h; exact IsL.drop n h2
theorem IsL.inv1 {d : D} {vs : List V} (h : IsL K O H [d] vs) : ∃ v, vs = [v] ∧ Is K O H d v := by
  unfold IsL at h
  obtain ⟨v, r, rfl, h1, h2⟩ := h
  unfold IsL at h2; subst h2
  exact ⟨v, rfl, h1⟩
theorem IsL.inv2 {d e : D} {vs : List V} (h : IsL K O H [d, e] vs) : ∃ v u, vs = [v, u] ∧ Is K O H d v ∧ Is K O H e u := by
  unfold IsL at h
  obtain ⟨v, r, rfl, h1, h2⟩ := h
  obtain ⟨u, rfl, h3⟩ := h2.inv1
  exact ⟨v, u, rfl, h1, h3⟩
theorem Is.int_iff {i : Int} {v : V} : Is K O H (.int i) v ↔ v = .int i := by unfold Is; exact Iff.rfl
theorem Is.bl_iff {b : Bool} {v : V} : Is K O H (.bl b) v ↔ v = .bl b := by unfold Is; exact Iff.rfl
theorem Is.str_iff {s : List Nat} {v : V} : Is K O H (.str s) v ↔ v = .str ⟨s.toArray⟩ := by unfold Is; exact Iff.rfl
theorem Is.non_iff {v : V} : Is K O H .non v ↔ v = .non := by unfold Is; exact Iff.rfl
theorem Is.ty_iff {n : String} {v : V} : Is K O H (.ty n) v ↔ v = .ty n := by unfold Is; exact Iff.rfl
theorem Is.ref_iff {a : Addr} {v : V} : Is K O H (.ref a) v ↔ v = .ref a := by unfold Is; exact Iff.rfl
theorem Is.tup_iff {l : List D} {v : V} : Is K O H (.tup l) v ↔ ∃ a xs, v = .ref a ∧ SqT K H a xs ∧ IsL K O H l xs := by unfold Is; exact Iff.rfl
theorem Is.lst_iff {l : List D} {v : V} : Is K O H (.lst l) v ↔ ∃ a xs, v = .ref a ∧ LsAt K O H a xs ∧ IsL K O H l xs := by unfold Is; exact Iff.rfl
end
inductive Sl where
  | un | v (d : D) | o (l : List D) | p (l : List D) | z (l : List D)
abbrev En := List Sl
def Sl.own : Sl → Option (List D)
  | .o l => some l
  | .p l => some l
  | .z l => some l
  | _ => none
def Sl.mt : Sl → Option (List D)
  | .o l => some l
  | .p l => some l
  | _ => none
def AtS (q : Sl → Option (List D)) (r : En) (σ : St) (a : Addr) : Prop := ∃ (i : Nat) (l : List D), (r[i]?).bind q = some l ∧ σ[i]? = some (some (.ref a))
abbrev OwnAt := AtS Sl.own
abbrev MutAt := AtS Sl.mt
theorem mt_own {x : Sl} {l : List D} (h : x.mt = some l) : x.own = some l := by
  cases x <;> first | (cases h; rfl) | cases h
theorem MutAt.own {r : En} {σ : St} {a : Addr} (h : MutAt r σ a) : OwnAt r σ a := by
  obtain ⟨i, l, e, q⟩ := h
  obtain ⟨x, e1, e2⟩ := Option.bind_eq_some_iff.mp e
  exact ⟨i, l, by rw [e1]; exact mt_own e2, q⟩
def Ow (O0 : Addr → Prop) (r : En) (σ : St) : Addr → Prop := fun a => O0 a ∨ OwnAt r σ a
structure R (K : Fg) (O0 : Addr → Prop) (H : Hp) (r : En) (σ : St) : Prop where
  len : r.length = σ.length
  val : ∀ (i : Nat) (d : D), r[i]? = some (.v d) → ∃ v, σ[i]? = some (some v) ∧ Is K (Ow O0 r σ) H d v
  own : ∀ (i : Nat) (l : List D), (r[i]?).bind Sl.own = some l → ∃ a xs, σ[i]? = some (some (.ref a)) ∧ H a = some (.lst xs) ∧ IsL K (Ow O0 r σ) H l xs
  apart : ∀ (i j : Nat) (a : Addr) (l m : List D), (r[i]?).bind Sl.own = some l → (r[j]?).bind Sl.own = some m → σ[i]? = some (some (.ref a)) → σ[j]? = some (some (.ref a)) → i = j
  o0 : OLst O0 H
  loc : ∀ (i : Nat) (l : List D) (a : Addr), (r[i]? = some (.o l) ∨ r[i]? = some (.z l)) → σ[i]? = some (some (.ref a)) → ¬ O0 a
  par : ∀ (i : Nat) (l : List D) (a : Addr), r[i]? = some (.p l) → σ[i]? = some (some (.ref a)) → O0 a
theorem R.ol {K : Fg} {O0 : Addr → Prop} {H : Hp} {r : En} {σ : St} (h : R K O0 H r σ) : OLst (Ow O0 r σ) H := fun a z => by
  rcases z with z | ⟨i, l, e, q⟩
  · exact h.o0 a z
  · obtain ⟨b, xs, e1, e2, _⟩ := h.own i l e
    rw [q] at e1; cases e1
    exact ⟨xs, e2⟩
theorem R.nofresh {K : Fg} {O0 : Addr → Prop} {H : Hp} {r : En} {σ : St} (h : R K O0 H r σ) {a : Addr} (n : H a = none) : ¬ Ow O0 r σ a := fun z => by
  obtain ⟨xs, e⟩ := h.ol a z
  rw [n] at e; cases e
theorem R.same {K : Fg} {O0 : Addr → Prop} {H H' : Hp} {r : En} {σ : St} (h : R K O0 H r σ) (s : Same H H') : R K O0 H' r σ where
  len := h.len
  val := fun i d e => by obtain ⟨v, e1, q⟩ := h.val i d e; exact ⟨v, e1, q.same s h.ol⟩
  own := fun i l e => by obtain ⟨a, xs, e1, e2, q⟩ := h.own i l e; exact ⟨a, xs, e1, s _ _ e2, q.same s h.ol⟩
  apart := h.apart
  o0 := fun a z => by obtain ⟨xs, e⟩ := h.o0 a z; exact ⟨xs, s _ _ e⟩
  loc := h.loc
  par := h.par
structure Kp (H : Hp) (r : En) (σ : St) (H' : Hp) (r' : En) (σ' : St) : Prop where
  keep : Keep (MutAt r σ) H H'
  live : ∀ b, H' b = none → H b = none
  lst : ∀ b xs, H b = some (.lst xs) → ∃ ys, H' b = some (.lst ys)
  new : ∀ b, OwnAt r' σ' b → OwnAt r σ b ∨ H b = none
  mnew : ∀ b, MutAt r' σ' b → MutAt r σ b ∨ H b = none
  par : ∀ (i : Nat) (l : List D), r[i]? = some (.p l) → (∃ l', r'[i]? = some (.p l')) ∧ σ'[i]? = σ[i]?
  fz : ∀ (i : Nat) (l : List D), r[i]? = some (.z l) → r'[i]? = some (.z l) ∧ σ'[i]? = σ[i]?
theorem Kp.of_same {H H' : Hp} (r : En) (σ : St) (s : Same H H') : Kp H r σ H' r σ :=
  ⟨fun b o e _ => s b o e, fun b e => s.free e, fun b xs e => ⟨xs, s _ _ e⟩, fun b z => .inl z, fun b z => .inl z, fun i l e => ⟨⟨l, e⟩, rfl⟩, fun i l e => ⟨e, rfl⟩⟩
theorem Kp.refl (H : Hp) (r : En) (σ : St) : Kp H r σ H r σ := .of_same r σ (Same.refl H)
theorem Kp.trans {H H1 H2 : Hp} {r r1 r2 : En} {σ σ1 σ2 : St} (a : Kp H r σ H1 r1 σ1) (b : Kp H1 r1 σ1 H2 r2 σ2) : Kp H r σ H2 r2 σ2 where
  keep := fun c o e n => b.keep c o (a.keep c o e n) fun z => (a.mnew c z).elim n fun q => by rw [e] at q; cases q
  live := fun c e => a.live c (b.live c e)
  lst := fun c xs e => by obtain ⟨ys, q⟩ := a.lst c xs e; exact b.lst c ys q
  new := fun c z => (b.new c z).elim (a.new c) fun q => .inr (a.live c q)
  mnew := fun c z => (b.mnew c z).elim (a.mnew c) fun q => .inr (a.live c q)
  par := fun i l e => by
    obtain ⟨⟨l1, e1⟩, q1⟩ := a.par i l e
    obtain ⟨⟨l2, e2⟩, q2⟩ := b.par i l1 e1
    exact ⟨⟨l2, e2⟩, q2.trans q1⟩
  fz := fun i l e => by
    obtain ⟨e1, q1⟩ := a.fz i l e
    obtain ⟨e2, q2⟩ := b.fz i l e1
    exact ⟨e2, q2.trans q1⟩
theorem PE.conseq {X : Cx} {e : Expr} {t t' : TE} (h : PE X e t) (i : ∀ σ H Q, t' σ H Q → t σ H Q) : PE X e t' := fun pins s σ H Q I q => h pins s σ H Q I (i σ H Q q)
theorem PT.conseq {X : Cx} {e : Expr} {t t' : TT} (h : PT X e t) (i : ∀ σ H Q, t' σ H Q → t σ H Q) : PT X e t' := fun pins s σ H Q I q => h pins s σ H Q I (i σ H Q q)
theorem PA.conseq {X : Cx} {e : List Expr} {t t' : TA} (h : PA X e t) (i : ∀ σ H Q, t' σ H Q → t σ H Q) : PA X e t' := fun pos pins s σ H Q I q => h pos pins s σ H Q I (i σ H Q q)
theorem PS.conseq {X : Cx} {st : Stmt} {t t' : TS} (h : PS X st t) (i : ∀ D σ H, t' D σ H → t D σ H) : PS X st t' := fun pins s σ H D I q => h pins s σ H D I (i D σ H q)
theorem PSs.conseq {X : Cx} {st : List Stmt} {t t' : TS} (h : PSs X st t) (i : ∀ D σ H, t' D σ H → t D σ H) : PSs X st t' := fun pins s σ H D I q => h pins s σ H D I (i D σ H q)
abbrev ME := En → Option D
abbrev ML := En → Option (List D)
abbrev MB := En → Option Bool
def lE (K : Fg) (f : ME) : TE := fun σ H Q => ∃ O0 r d, R K O0 H r σ ∧ f r = some d ∧ ∀ v H', Same H H' → Is K (Ow O0 r σ) H' d v → Q v H'
def lT (K : Fg) (f : MB) : TT := fun σ H Q => ∃ O0 r b, R K O0 H r σ ∧ f r = some b ∧ ∀ H', Same H H' → Q b H'
def lA (K : Fg) (f : ML) : TA := fun σ H Q => ∃ O0 r l, R K O0 H r σ ∧ f r = some l ∧ ∀ vs H', Same H H' → IsL K (Ow O0 r σ) H' l vs → Q vs H'
def lF (K : Fg) (f : ML) : TE := fun σ H Q => ∃ O0 r l, R K O0 H r σ ∧ f r = some l ∧ ∀ a xs H', Same H H' → H a = none → H' a = some (.lst xs) → IsL K (fun b => Ow O0 r σ b ∨ b = a) H' l xs → Q (.ref a) H'
def lB (K : Fg) (f : ML) : TE := fun σ H Q => ∃ O0 r l, R K O0 H r σ ∧ f r = some l ∧ ∀ a xs H', Same H H' → SqL K H' a xs → IsL K (Ow O0 r σ) H' l xs → Q (.ref a) H'
def lX (K : Fg) (f : En → Option (D × En)) : TE := fun σ H Q => ∃ O0 r d r', R K O0 H r σ ∧ f r = some (d, r') ∧ ∀ v H', R K O0 H' r' σ → Kp H r σ H' r' σ → Is K (Ow O0 r' σ) H' d v → Q v H'
def DE (X : Cx) (e : Expr) (f : ME) : Prop := PE X e (lE X.K f)
def DT (X : Cx) (e : Expr) (f : MB) : Prop := PT X e (lT X.K f)
def DA (X : Cx) (es : List Expr) (f : ML) : Prop := PA X es (lA X.K f)
def DF (X : Cx) (e : Expr) (f : ML) : Prop := PE X e (lF X.K f)
def DB (X : Cx) (e : Expr) (f : ML) : Prop := PE X e (lB X.K f)
def DX (X : Cx) (e : Expr) (f : En → Option (D × En)) : Prop := PE X e (lX X.K f)
inductive Fl where
  | nx (r : En) | bk (r : En) | ct (r : En) | rt (d : D) (r : En) | rf (l : List D) (r : En)
abbrev MS := En → Option Fl
def FrA (H : Hp) (r : En) (σ : St) (a : Addr) : Prop := H a = none ∨ ∃ (i : Nat) (l : List D), r[i]? = some (.o l) ∧ σ[i]? = some (some (.ref a))
def PostS (K : Fg) (O0 : Addr → Prop) (H : Hp) (r : En) (σ : St) (Dn : Ends) : Fl → Prop
  | .nx r' => ∀ σ' H', R K O0 H' r' σ' → Kp H r σ H' r' σ' → Dn.nx σ' H'
  | .bk r' => ∀ σ' H', R K O0 H' r' σ' → Kp H r σ H' r' σ' → Dn.bk σ' H'
  | .ct r' => ∀ σ' H', R K O0 H' r' σ' → Kp H r σ H' r' σ' → Dn.ct σ' H'
  | .rt d r' => ∀ v σ' H', R K O0 H' r' σ' → Kp H r σ H' r' σ' → Is K O0 H' d v → Dn.rt v H'
  | .rf l r' => ∀ a xs σ' H', R K O0 H' r' σ' → Kp H r σ H' r' σ' → FrA H r σ a → ¬ O0 a → H' a = some (.lst xs) → IsL K (fun b => O0 b ∨ b = a) H' l xs → Dn.rt (.ref a) H'
def lS (K : Fg) (g : MS) : TS := fun Dn σ H => ∃ O0 r fl, R K O0 H r σ ∧ g r = some fl ∧ PostS K O0 H r σ Dn fl
def DS (X : Cx) (st : Stmt) (g : MS) : Prop := PS X st (lS X.K g)
def DSs (X : Cx) (st : List Stmt) (g : MS) : Prop := PSs X st (lS X.K g)
theorem PostS.before {K : Fg} {O0 : Addr → Prop} {H H1 : Hp} {r r1 : En} {σ σ1 : St} {Dn : Ends} {fl : Fl} (R1 : R K O0 H1 r1 σ1) (k : Kp H r σ H1 r1 σ1) (h : PostS K O0 H r σ Dn fl) : PostS K O0 H1 r1 σ1 Dn fl := by
  have fra : ∀ a, FrA H1 r1 σ1 a → FrA H r σ a := fun a z => by
    rcases z with z | ⟨i, l, e, q⟩
    · exact .inl (k.live a z)
    · rcases k.new a ⟨i, l, by rw [e]; rfl, q⟩ with ⟨j, m, e2, q2⟩ | z
      · cases ej : r[j]? with
        | none => rw [ej] at e2; cases e2
        | some x =>
          rw [ej] at e2
          cases x with
          | un => cases e2
          | v d => cases e2
          | o l' => exact .inr ⟨j, l', ej, q2⟩
          | p l' =>
            obtain ⟨⟨l2, e3⟩, q3⟩ := k.par j l' ej
            have := R1.apart i j a l l2 (by rw [e]; rfl) (by rw [e3]; rfl) q (q3.trans q2)
            subst this
            rw [e] at e3; cases e3
          | z l' =>
            obtain ⟨e3, q3⟩ := k.fz j l' ej
            have := R1.apart i j a l l' (by rw [e]; rfl) (by rw [e3]; rfl) q (q3.trans q2)
            subst this
            rw [e] at e3; cases e3
      · exact .inl z
  cases fl with
  | nx r' => exact fun σ' H' h1 h2 => h σ' H' h1 (k.trans h2)
  | bk r' => exact fun σ' H' h1 h2 => h σ' H' h1 (k.trans h2)
  | ct r' => exact fun σ' H' h1 h2 => h σ' H' h1 (k.trans h2)
  | rt d r' => exact fun v σ' H' h1 h2 h3 => h v σ' H' h1 (k.trans h2) h3
  | rf l r' => exact fun a xs σ' H' h1 h2 h3 h4 h5 h6 => h a xs σ' H' h1 (k.trans h2) (fra a h3) h4 h5 h6
def mC (d : D) : ME := fun _ => some d
def mVar (i : Nat) : ME := fun r => match r[i]? with
  | some (.v d) => some d
  | _ => none
def mOwn (i : Nat) : ML := fun r => (r[i]?).bind Sl.own
def mBin (m : D → D → Option D) (f g : ME) : ME := fun r => (f r).bind fun x => (g r).bind fun y => m x y
def mUn (m : D → Option D) (f : ME) : ME := fun r => (f r).bind m
def mNil : ML := fun _ => some []
def mCons (f : ME) (g : ML) : ML := fun r => (f r).bind fun x => (g r).bind fun l => some (x :: l)
def mTup (f : ML) : ME := fun r => (f r).bind fun l => if l.length ≤ sizeLine then some (.tup l) else none
def mLstF (f : ML) : ML := fun r => (f r).bind fun l => if l.length ≤ sizeLine then some l else none
def mOfF (f : ML) : ME := fun r => (f r).map .lst
def mAsL (f : ME) : ML := fun r => (f r).bind fun d => match d with
  | .lst l => some l
  | _ => none
def mAnd (f g : ME) : ME := fun r => (f r).bind fun d => match d with
  | .bl true => g r
  | .bl false => some (.bl false)
  | _ => none
def notD : D → Option D
  | .bl b => some (.bl !b)
  | _ => none
def mAndT (f g : MB) : MB := fun r => (f r).bind fun b => if b = true then g r else some false
def mOrT (f g : MB) : MB := fun r => (f r).bind fun b => if b = true then some true else g r
def mNotT (f : MB) : MB := fun r => (f r).map (!·)
def blD : D → Option Bool
  | .bl b => some b
  | _ => none
def mBl (f : ME) : MB := fun r => (f r).bind blD
def truD : D → Option Bool
  | .non => some false
  | .bl b => some b
  | .int i => some (i != 0)
  | .str s => if s.length ≤ sizeLine then some (!s.isEmpty) else none
  | .tup l => some (!l.isEmpty)
  | .lst l => some (!l.isEmpty)
  | _ => none
def mTru (f : ME) : MB := fun r => (f r).bind truD
section
variable {X : Cx} {pos : Pos} {a b c : Expr} {f g : ME}
theorem bind_some {α β : Type} {o : Option α} {h : α → Option β} {y : β} (e : o.bind h = some y) : ∃ x, o = some x ∧ h x = some y := by
  cases o with
  | none => cases e
  | some x => exact ⟨x, rfl, e⟩
theorem de_of {t : TE} (h : PE X a t) (i : ∀ O0 σ H r d Q, R X.K O0 H r σ → f r = some d → (∀ v H', Same H H' → Is X.K (Ow O0 r σ) H' d v → Q v H') → t σ H Q) : DE X a f :=
  PE.conseq h fun σ H Q ⟨O0, r, d, hR, e, q⟩ => i O0 σ H r d Q hR e q
theorem de_var (i : Nat) {x : Str} (h : PE X (.Name x pos) (tVar i)) : DE X (.Name x pos) (mVar i) :=
  de_of h fun O0 σ H r d Q hR e q => by
    unfold mVar at e
    have e' : r[i]? = some (.v d) := by
      split at e
      · rename_i d' h; cases e; exact h
      · cases e
    obtain ⟨v, e1, q1⟩ := hR.val i d e'
    exact ⟨v, e1, q v H (Same.refl H) q1⟩
theorem db_own (i : Nat) {x : Str} (h : PE X (.Name x pos) (tVar i)) : DB X (.Name x pos) (mOwn i) :=
  PE.conseq h fun σ H Q ⟨O0, r, l, hR, e, q⟩ => by
    obtain ⟨a, xs, e1, e2, q1⟩ := hR.own i l e
    exact ⟨.ref a, e1, q a xs H (Same.refl H) (SqL.of e2) q1⟩
theorem de_con {v : V} {d : D} (h : PE X a (tC v)) (hd : ∀ O H, Is X.K O H d v) : DE X a (mC d) :=
  de_of h fun O0 σ H r d' Q hR e q => by
    unfold mC at e
    cases e
    exact q v H (Same.refl H) (hd _ _)
theorem de_int {i j} : DE X (.Constant (.int i) j pos) (mC (.int i)) := de_con pe_int fun O H => by unfold Is; rfl
theorem de_bl {i j} : DE X (.Constant (.bool i) j pos) (mC (.bl i)) := de_con pe_bl fun O H => by unfold Is; rfl
theorem de_non {j} : DE X (.Constant .none j pos) (mC .non) := de_con pe_non fun O H => by unfold Is; rfl
theorem de_str {x : Str} {s : List Nat} {j} (e : x.cps.toList = s := by rfl) : DE X (.Constant (.str x) j pos) (mC (.str s)) := de_con pe_str fun O H => by
  unfold Is; subst e; simp
def OpD (K : Fg) (r2 : R2) (m : D → D → Option D) : Prop := ∀ (O : Addr → Prop) (H : Hp) (dx dy d : D) (vx vy : V) (Q : VK), OLst O H → Is K O H dx vx → Is K O H dy vy → m dx dy = some d → (∀ v H', Same H H' → Is K O H' d v → Q v H') → r2 vx vy H Q
theorem two {ta tb : TE} {r2 : R2} {m : D → D → Option D} (hd : OpD X.K r2 m) {σ : St} {H : Hp} {Q : VK} (h : lE X.K (mBin m f g) σ H Q) : tOp r2 (lE X.K f) (lE X.K g) σ H Q := by
  obtain ⟨O0, r, d, hR, e, q⟩ := h
  obtain ⟨x, e1, e⟩ := bind_some e
  obtain ⟨y, e2, e⟩ := bind_some e
  refine ⟨O0, r, x, hR, e1, fun v1 H1 s1 i1 => ⟨O0, r, y, hR.same s1, e2, fun v2 H2 s2 i2 => ?_⟩⟩
  exact hd (Ow O0 r σ) H2 x y d v1 v2 Q (hR.same (s1.trans s2)).ol (i1.same s2 (hR.same s1).ol) i2 e fun v H' s' i' => q v H' ((s1.trans s2).trans s') i'
theorem de_bin {op : Operator} {r2 : R2} {m : D → D → Option D} (ho : OpR X (binaryOp op) r2) (hd : OpD X.K r2 m) (ha : DE X a f) (hb : DE X b g) : DE X (.BinOp a op b pos) (mBin m f g) :=
  PE.conseq (pe_op ho ha hb) fun σ H Q h => two (ta := lE X.K f) (tb := lE X.K g) hd h
theorem de_cmp {op : CmpOp} {r2 : R2} {m : D → D → Option D} (ho : OpR X (compareOp op) r2) (hd : OpD X.K r2 m) (ha : DE X a f) (hb : DE X b g) (hm : behindInMarks op b = false) : DE X (.Compare a [op] [b] pos) (mBin m f g) :=
  PE.conseq (pe_cmpR ho ha hb hm) fun σ H Q h => two (ta := lE X.K f) (tb := lE X.K g) hd h
theorem dt_cmp {op : CmpOp} {r2 : R2} {m : D → D → Option D} (ho : OpR X (compareOp op) r2) (hd : OpD X.K r2 m) (ha : DE X a f) (hb : DE X b g) (hm : behindInMarks op b = false) : DT X (.Compare a [op] [b] pos) (mBl (mBin m f g)) := by
  refine PT.conseq (pt_cmpR ho ha hb hm) fun σ H Q h => ?_
  obtain ⟨O0, r, k, hR, e, q⟩ := h
  obtain ⟨d, e1, e⟩ := bind_some e
  refine two (ta := lE X.K f) (tb := lE X.K g) (m := m) hd ⟨O0, r, d, hR, e1, fun v H' s' i' => ?_⟩
  cases d <;> first | cases e | skip
  rw [Is.bl_iff] at i'
  exact ⟨_, i', q H' s'⟩
theorem de_one {op} (h : DE X a f) : DE X (.BoolOp op [a] pos) f := pe_one h
theorem de_and {rest : List Expr} (ha : DE X a f) (hb : DE X (.BoolOp .And (b :: rest) pos) g) : DE X (.BoolOp .And (a :: b :: rest) pos) (mAnd f g) := by
  refine PE.conseq (pe_and ha hb) fun σ H Q h => ?_
  obtain ⟨O0, r, d, hR, e, q⟩ := h
  obtain ⟨x, e1, e⟩ := bind_some e
  refine ⟨O0, r, x, hR, e1, fun v1 H1 s1 i1 => ?_⟩
  cases x with
  | bl k =>
    rw [Is.bl_iff] at i1
    refine ⟨k, i1, ?_⟩
    cases k with
    | true =>
      rw [if_pos rfl]
      exact ⟨O0, r, d, hR.same s1, e, fun v H' s' i' => q v H' (s1.trans s') i'⟩
    | false =>
      rw [if_neg Bool.false_ne_true]
      cases e
      exact q _ H1 s1 (by rw [Is.bl_iff])
  | _ => cases e
theorem de_not (ha : DE X a f) : DE X (.UnaryOp .Not a pos) (mUn notD f) := by
  refine PE.conseq (pe_not ha) fun σ H Q h => ?_
  obtain ⟨O0, r, d, hR, e, q⟩ := h
  obtain ⟨x, e1, e⟩ := bind_some e
  refine ⟨O0, r, x, hR, e1, fun v1 H1 s1 i1 => ?_⟩
  cases x with
  | bl k =>
    rw [Is.bl_iff] at i1
    cases e
    exact ⟨k, i1, q _ H1 s1 (by rw [Is.bl_iff])⟩
  | _ => cases e
section
variable {tf tg : MB}
theorem dw_and1 (ha : DT X a tf) : PW X (.BoolOp .And [a] pos) (lT X.K tf) := pw_and1 ha
theorem dw_or1 (ha : DT X a tf) : PW X (.BoolOp .Or [a] pos) (lT X.K tf) := pw_or1 ha
theorem PW.conseq {e : Expr} {t t' : TT} (h : PW X e t) (i : ∀ σ H Q, t' σ H Q → t σ H Q) : PW X e t' := fun wh pins s σ H Q I q => h wh pins s σ H Q I (i σ H Q q)
theorem dw_and {rest : List Expr} (ha : DT X a tf) (hb : PW X (.BoolOp .And (b :: rest) pos) (lT X.K tg)) : PW X (.BoolOp .And (a :: b :: rest) pos) (lT X.K (mAndT tf tg)) := by
  refine PW.conseq (pw_and ha hb) fun σ H Q h => ?_
  obtain ⟨O0, r, d, hR, e, q⟩ := h
  obtain ⟨x, e1, e⟩ := bind_some e
  refine ⟨O0, r, x, hR, e1, fun H1 s1 => ?_⟩
  cases x with
  | true =>
    rw [if_pos rfl]
    exact ⟨O0, r, d, hR.same s1, e, fun H' s' => q H' (s1.trans s')⟩
  | false =>
    rw [if_neg Bool.false_ne_true]
    cases e
    exact q H1 s1
theorem dw_or {rest : List Expr} (ha : DT X a tf) (hb : PW X (.BoolOp .Or (b :: rest) pos) (lT X.K tg)) : PW X (.BoolOp .Or (a :: b :: rest) pos) (lT X.K (mOrT tf tg)) := by
  refine PW.conseq (pw_or ha hb) fun σ H Q h => ?_
  obtain ⟨O0, r, d, hR, e, q⟩ := h
  obtain ⟨x, e1, e⟩ := bind_some e
  refine ⟨O0, r, x, hR, e1, fun H1 s1 => ?_⟩
  cases x with
  | true =>
    rw [if_pos rfl]
    cases e
    exact q H1 s1
  | false =>
    rw [if_neg Bool.false_ne_true]
    exact ⟨O0, r, d, hR.same s1, e, fun H' s' => q H' (s1.trans s')⟩
theorem dt_w (h : PW X a (lT X.K tf)) : DT X a tf := h.pt
theorem dt_not (ha : DT X a tf) : DT X (.UnaryOp .Not a pos) (mNotT tf) := by
  refine PT.conseq (pt_not ha) fun σ H Q h => ?_
  obtain ⟨O0, r, d, hR, e, q⟩ := h
  unfold mNotT at e
  cases e1 : tf r with
  | none => rw [e1] at e; cases e
  | some k =>
    rw [e1] at e; cases e
    exact ⟨O0, r, k, hR, e1, fun H1 s1 => q H1 s1⟩
theorem truD_ok {K : Fg} {O : Addr → Prop} {H : Hp} {d : D} {v : V} {k : Bool} (h : Is K O H d v) (e : truD d = some k) : TruV K v H k := by
  cases d with
  | non => rw [Is.non_iff] at h; subst h; cases e; rfl
  | bl b => rw [Is.bl_iff] at h; subst h; cases e; rfl
  | int i => rw [Is.int_iff] at h; subst h; cases e; rfl
  | str s =>
    rw [Is.str_iff] at h; subst h
    simp only [truD] at e
    split at e
    · rename_i hl
      cases e
      refine ⟨by simpa [Str.length] using hl, ?_⟩
      cases s with
      | nil => rfl
      | cons c r =>
        have : ((r.length : Int) + 1) ≠ 0 := by omega
        simpa [Str.length] using this
    · cases e
  | tup l =>
    rw [Is.tup_iff] at h; obtain ⟨a, xs, rfl, hs, hl⟩ := h; cases e
    refine .inr (.inl ⟨xs, hs, ?_⟩)
    have := hl.length
    cases l <;> cases xs <;> simp_all
  | lst l =>
    rw [Is.lst_iff] at h; obtain ⟨a, xs, rfl, hs, hl⟩ := h; cases e
    refine .inl ⟨xs, hs.sq, ?_⟩
    have := hl.length
    cases l <;> cases xs <;> simp_all
  | ty n => cases e
  | ref a => cases e
theorem dt_tru (ha : DE X a f) (he : ∀ whole, isTrue a X.env whole = (do let v ← whole; standAt a.pos; holding [v] (truthy v)) := by intro _; rfl) : DT X a (mTru f) := by
  refine PT.conseq (pt_truth ha he) fun σ H Q h => ?_
  obtain ⟨O0, r, d, hR, e, q⟩ := h
  obtain ⟨x, e1, e⟩ := bind_some e
  exact ⟨O0, r, x, hR, e1, fun v1 H1 s1 i1 => ⟨d, truD_ok i1 e, q H1 s1⟩⟩
end
section
variable {es : List Expr} {fs : ML}
theorem da_nil : DA X [] mNil := PA.conseq pa_nil fun σ H Q ⟨O0, r, l, hR, e, q⟩ => by
  unfold mNil at e; cases e
  exact q [] H (Same.refl H) .nil
theorem da_cons (ha : DE X a f) (hr : DA X es fs) (hs : starEach (a :: es) X.env = (false, eval a X.env) :: starEach es X.env := by rfl) : DA X (a :: es) (mCons f fs) := by
  refine PA.conseq (pa_cons ha hr hs) fun σ H Q h => ?_
  obtain ⟨O0, r, d, hR, e, q⟩ := h
  obtain ⟨x, e1, e⟩ := bind_some e
  obtain ⟨l, e2, e⟩ := bind_some e
  cases e
  exact ⟨O0, r, x, hR, e1, fun v1 H1 s1 i1 => ⟨O0, r, l, hR.same s1, e2, fun vs H2 s2 i2 => q _ H2 (s1.trans s2) (.cons (i1.same s2 (hR.same s1).ol) i2)⟩⟩
theorem same_upd {H : Hp} {p : Addr} {o : HO} (n : H p = none) : Same H (upd H p o) := fun b u e => by rw [upd_ne (ne_of_none e n)]; exact e
theorem de_tup {x1} (h : DA X es fs) : DE X (.Tuple es x1 pos) (mTup fs) := by
  refine PE.conseq (pe_tup h) fun σ H Q h => ?_
  obtain ⟨O0, r, d, hR, e, q⟩ := h
  obtain ⟨l, e1, e⟩ := bind_some e
  split at e
  · rename_i hl
    cases e
    refine ⟨O0, r, l, hR, e1, fun vs H1 s1 i1 => ⟨by rw [← i1.length]; exact hl, fun p hp => q _ _ (s1.trans (same_upd hp)) ?_⟩⟩
    rw [Is.tup_iff]
    exact ⟨p, vs, rfl, SqT.of upd_same, i1.same (same_upd hp) (hR.same s1).ol⟩
  · cases e
theorem df_lst (h : DA X es fs) : DF X (.List es pos) (mLstF fs) := by
  refine PE.conseq (pe_lst h) fun σ H Q h => ?_
  obtain ⟨O0, r, l', hR, e, q⟩ := h
  obtain ⟨l, e1, e⟩ := bind_some e
  split at e
  · rename_i hl
    have e' : l = l' := Option.some.inj e
    subst e'
    refine ⟨O0, r, l, hR, e1, fun vs H1 s1 i1 => ⟨by rw [← i1.length]; exact hl, fun p hp => q _ _ _ (s1.trans (same_upd hp)) (s1.free hp) upd_same ?_⟩⟩
    refine IsL.mono (Same.kp (same_upd hp) _) (hR.same s1).ol (fun a z n => ?_) _ vs i1
    rcases z with z | z
    · exact z
    · subst z; exact absurd hp n
  · cases e
theorem de_f {fl : ML} (h : DF X a fl) : DE X a (mOfF fl) := by
  refine PE.conseq h fun σ H Q h => ?_
  obtain ⟨O0, r, d, hR, e, q⟩ := h
  unfold mOfF at e
  cases e1 : fl r with
  | none => rw [e1] at e; cases e
  | some l =>
    rw [e1] at e; cases e
    refine ⟨O0, r, l, hR, e1, fun p xs H1 s1 n1 e2 i1 => q _ H1 s1 ?_⟩
    rw [Is.lst_iff]
    have ol : OLst (fun b => Ow O0 r σ b ∨ b = p) H1 := fun b z => z.elim (fun z => (hR.same s1).ol b z) fun z => by subst z; exact ⟨xs, e2⟩
    exact ⟨p, xs, rfl, .inl ⟨hR.nofresh n1, .inl e2⟩, IsL.mono (Same.kp (Same.refl H1) _) ol (fun a z _ => .inl z) l xs i1⟩
theorem db_e (h : DE X a f) : DB X a (mAsL f) := by
  refine PE.conseq h fun σ H Q h => ?_
  obtain ⟨O0, r, l, hR, e, q⟩ := h
  obtain ⟨d, e1, e⟩ := bind_some e
  refine ⟨O0, r, d, hR, e1, fun v H1 s1 i1 => ?_⟩
  cases d with
  | lst l' =>
    cases e
    rw [Is.lst_iff] at i1
    obtain ⟨p, xs, rfl, rd, il⟩ := i1
    exact q p xs H1 s1 rd.sq il
  | _ => cases e
end
end
def sSkip : MS := fun r => some (.nx r)
def sSeq (g h : MS) : MS := fun r => (g r).bind fun fl => match fl with
  | .nx r' => h r'
  | x => some x
def setV (i : Nat) (d : D) (r : En) : Option En := match r[i]? with
  | some (.p _) => none
  | some (.z _) => none
  | some _ => some (r.set i (.v d))
  | none => none
def setO (i : Nat) (l : List D) (r : En) : Option En := match r[i]? with
  | some (.p _) => none
  | some (.z _) => none
  | some _ => some (r.set i (.o l))
  | none => none
def sSet (i : Nat) (f : ME) : MS := fun r => (f r).bind fun d => (setV i d r).map .nx
def sOwn (i : Nat) (f : ML) : MS := fun r => (f r).bind fun l => (setO i l r).map .nx
def sRet (f : ME) : MS := fun r => (f r).map fun d => .rt d r
def sRetOwn (i : Nat) : MS := fun r => match r[i]? with
  | some (.o l) => some (.rf l r)
  | _ => none
def sIf (c : MB) (g h : MS) : MS := fun r => (c r).bind fun b => if b = true then g r else h r
def sX (f : En → Option (D × En)) : MS := fun r => (f r).map fun p => .nx p.2
def forL (bd : D → En → Option En) (g : MS) : List D → MS
  | [], r => some (.nx r)
  | d :: l, r => (bd d r).bind fun r1 => (g r1).bind fun fl => match fl with
      | .nx r' => forL bd g l r'
      | .ct r' => forL bd g l r'
      | .bk r' => some (.nx r')
      | x => some x
def sFor (bd : D → En → Option En) (it : ML) (g : MS) : MS := fun r => (it r).bind fun l => forL bd g l r
theorem get_set_ne {α : Type} {l : List α} {i j : Nat} {x : α} (h : i ≠ j) : (l.set i x)[j]? = l[j]? := by rw [List.getElem?_set]; simp [h]
theorem get_set_eq {α : Type} {l : List α} {i : Nat} {x : α} (h : i < l.length) : (l.set i x)[i]? = some x := by rw [List.getElem?_set]; simp [h]
section
variable {K : Fg} {O0 : Addr → Prop} {H H1 : Hp} {r : En} {σ : St} {i : Nat} {d : D} {v : V}
theorem own_setv {q : Sl → Option (List D)} (hq : ∀ d, q (.v d) = none) {a : Addr} {x : Option V} (h : AtS q (r.set i (.v d)) (σ.set i x) a) : AtS q r σ a := by
  obtain ⟨j, l, e, q'⟩ := h
  by_cases hj : i = j
  · subst hj
    by_cases hl : i < r.length
    · rw [get_set_eq hl] at e
      have e' : q (.v d) = some l := e
      rw [hq] at e'; cases e'
    · rw [List.getElem?_eq_none (by simpa using hl)] at e; cases e
  · rw [get_set_ne hj] at e q'
    exact ⟨j, l, e, q'⟩
theorem R.setv (h : R K O0 H r σ) (hi : i < r.length) (np : ∀ l, r[i]? ≠ some (.p l) ∧ r[i]? ≠ some (.z l)) (hv : Is K (Ow O0 r σ) H d v) : R K O0 H (r.set i (.v d)) (σ.set i (some v)) ∧ Kp H r σ H (r.set i (.v d)) (σ.set i (some v)) := by
  have his : i < σ.length := by rw [← h.len]; exact hi
  have sub : ∀ a, Ow O0 (r.set i (.v d)) (σ.set i (some v)) a → H a ≠ none → Ow O0 r σ a := fun a z _ => z.elim .inl fun z => .inr (own_setv (fun _ => rfl) z)
  have ne : ∀ (j : Nat) (l : List D), ((r.set i (.v d))[j]?).bind Sl.own = some l → i ≠ j := fun j l e z => by subst z; rw [get_set_eq hi] at e; cases e
  refine ⟨⟨by simp [h.len], fun j d' e => ?_, fun j l e => ?_, fun j k a l m e1 e2 q1 q2 => ?_, h.o0, fun j l a e q => ?_, fun j l a e q => ?_⟩, ⟨fun b o e _ => e, fun b e => e, fun b xs e => ⟨xs, e⟩, fun b z => .inl (own_setv (fun _ => rfl) z), fun b z => .inl (own_setv (fun _ => rfl) z), fun j l e => ?_, fun j l e => ?_⟩⟩
  · by_cases hj : i = j
    · subst hj
      rw [get_set_eq hi] at e; cases e
      exact ⟨v, get_set_eq his, Is.mono (Same.kp (Same.refl H) _) h.ol sub _ _ hv⟩
    · rw [get_set_ne hj] at e
      obtain ⟨u, e1, q⟩ := h.val j d' e
      exact ⟨u, by rw [get_set_ne hj]; exact e1, Is.mono (Same.kp (Same.refl H) _) h.ol sub _ _ q⟩
  · have hj := ne j l e
    rw [get_set_ne hj] at e
    obtain ⟨a, xs, e1, e2, q⟩ := h.own j l e
    exact ⟨a, xs, by rw [get_set_ne hj]; exact e1, e2, IsL.mono (Same.kp (Same.refl H) _) h.ol sub _ _ q⟩
  · have hj := ne j l e1
    have hk := ne k m e2
    rw [get_set_ne hj] at e1 q1
    rw [get_set_ne hk] at e2 q2
    exact h.apart j k a l m e1 e2 q1 q2
  · have hj : i ≠ j := ne j l (by rcases e with e | e <;> rw [e] <;> rfl)
    rw [get_set_ne hj] at e q
    exact h.loc j l a e q
  · have hj : i ≠ j := ne j l (by rw [e]; rfl)
    rw [get_set_ne hj] at e q
    exact h.par j l a e q
  · have hj : i ≠ j := fun z => by subst z; exact (np l).1 e
    exact ⟨⟨l, by rw [get_set_ne hj]; exact e⟩, get_set_ne hj⟩
  · have hj : i ≠ j := fun z => by subst z; exact (np l).2 e
    exact ⟨by rw [get_set_ne hj]; exact e, get_set_ne hj⟩
theorem R.seto {l : List D} {xs : List V} {p : Addr} (h : R K O0 H r σ) (s : Same H H1) (n : H p = none) (e : H1 p = some (.lst xs)) (hl : IsL K (fun b => Ow O0 r σ b ∨ b = p) H1 l xs) (hi : i < r.length) (np : ∀ l, r[i]? ≠ some (.p l) ∧ r[i]? ≠ some (.z l)) :
    R K O0 H1 (r.set i (.o l)) (σ.set i (some (.ref p))) ∧ Kp H r σ H1 (r.set i (.o l)) (σ.set i (some (.ref p))) := by
  have his : i < σ.length := by rw [← h.len]; exact hi
  have ow : ∀ {q : Sl → Option (List D)} a, AtS q (r.set i (.o l)) (σ.set i (some (.ref p))) a → AtS q r σ a ∨ a = p := fun {q} a z => by
    obtain ⟨j, m, e1, q1⟩ := z
    by_cases hj : i = j
    · subst hj
      rw [get_set_eq his] at q1; cases q1; exact .inr rfl
    · rw [get_set_ne hj] at e1 q1
      exact .inl ⟨j, m, e1, q1⟩
  have sub : ∀ a, Ow O0 (r.set i (.o l)) (σ.set i (some (.ref p))) a → H a ≠ none → Ow O0 r σ a := fun a z nn => z.elim .inl fun z => (ow a z).elim .inr fun z => by subst z; exact absurd n nn
  have olp : OLst (fun b => Ow O0 r σ b ∨ b = p) H1 := fun b z => z.elim (fun z => (h.same s).ol b z) fun z => by subst z; exact ⟨xs, e⟩
  refine ⟨⟨by simp [h.len], fun j d' e1 => ?_, fun j m e1 => ?_, fun j k a l1 m e1 e2 q1 q2 => ?_, (h.same s).o0, fun j m a e1 q => ?_, fun j m a e1 q => ?_⟩, ⟨fun b o e1 _ => s b o e1, fun b e1 => s.free e1, fun b ys e1 => ⟨ys, s _ _ e1⟩, fun b z => (ow b z).imp id fun z => by subst z; exact n, fun b z => (ow b z).imp id fun z => by subst z; exact n, fun j m e1 => ?_, fun j m e1 => ?_⟩⟩
  · have hj : i ≠ j := fun z => by subst z; rw [get_set_eq hi] at e1; cases e1
    rw [get_set_ne hj] at e1
    obtain ⟨u, e2, q⟩ := h.val j d' e1
    exact ⟨u, by rw [get_set_ne hj]; exact e2, Is.mono (Same.kp s _) h.ol sub _ _ q⟩
  · by_cases hj : i = j
    · subst hj
      rw [get_set_eq hi] at e1; cases e1
      refine ⟨p, xs, get_set_eq his, e, IsL.mono (Same.kp (Same.refl H1) _) olp (fun a z _ => z.elim (fun z => .inl (.inl z)) fun z => (ow a z).imp .inr id) _ _ hl⟩
    · rw [get_set_ne hj] at e1
      obtain ⟨a, ys, e2, e3, q⟩ := h.own j m e1
      exact ⟨a, ys, by rw [get_set_ne hj]; exact e2, s _ _ e3, IsL.mono (Same.kp s _) h.ol sub _ _ q⟩
  · have out : ∀ (j : Nat) (m : List D) (a : Addr), i ≠ j → ((r.set i (.o l))[j]?).bind Sl.own = some m → (σ.set i (some (.ref p)))[j]? = some (some (.ref a)) → a ≠ p := fun j m a hj e1 q1 z => by
      rw [get_set_ne hj] at e1 q1
      obtain ⟨b, ys, e2, e3, _⟩ := h.own j m e1
      rw [q1] at e2; cases e2
      subst z
      rw [n] at e3; cases e3
    by_cases hj : i = j
    · by_cases hk : i = k
      · exact hj.symm.trans hk
      · subst hj
        rw [get_set_eq his] at q1; cases q1
        exact absurd rfl (out k m p hk e2 q2)
    · by_cases hk : i = k
      · subst hk
        rw [get_set_eq his] at q2; cases q2
        exact absurd rfl (out j l1 p hj e1 q1)
      · rw [get_set_ne hj] at e1 q1
        rw [get_set_ne hk] at e2 q2
        exact h.apart j k a l1 m e1 e2 q1 q2
  · by_cases hj : i = j
    · subst hj
      rw [get_set_eq his] at q; cases q
      exact fun z => by obtain ⟨ys, e3⟩ := h.o0 p z; rw [n] at e3; cases e3
    · rw [get_set_ne hj] at e1 q
      exact h.loc j m a e1 q
  · have hj : i ≠ j := fun z => by subst z; rw [get_set_eq hi] at e1; cases e1
    rw [get_set_ne hj] at e1 q
    exact h.par j m a e1 q
  · have hj : i ≠ j := fun z => by subst z; exact (np m).1 e1
    exact ⟨⟨m, by rw [get_set_ne hj]; exact e1⟩, get_set_ne hj⟩
  · have hj : i ≠ j := fun z => by subst z; exact (np m).2 e1
    exact ⟨by rw [get_set_ne hj]; exact e1, get_set_ne hj⟩
theorem setV_some {r' : En} (e : setV i d r = some r') : i < r.length ∧ (∀ l, r[i]? ≠ some (.p l) ∧ r[i]? ≠ some (.z l)) ∧ r' = r.set i (.v d) := by
  unfold setV at e
  cases e1 : r[i]? with
  | none => rw [e1] at e; cases e
  | some x =>
    have hi : i < r.length := (List.getElem?_eq_some_iff.mp e1).1
    rw [e1] at e
    cases x with
    | p l => cases e
    | z l => cases e
    | _ => cases e; exact ⟨hi, fun l => ⟨(fun z => by cases z), (fun z => by cases z)⟩, rfl⟩
theorem setO_some {r' : En} {l : List D} (e : setO i l r = some r') : i < r.length ∧ (∀ l, r[i]? ≠ some (.p l) ∧ r[i]? ≠ some (.z l)) ∧ r' = r.set i (.o l) := by
  unfold setO at e
  cases e1 : r[i]? with
  | none => rw [e1] at e; cases e
  | some x =>
    have hi : i < r.length := (List.getElem?_eq_some_iff.mp e1).1
    rw [e1] at e
    cases x with
    | p l => cases e
    | z l => cases e
    | _ => cases e; exact ⟨hi, fun l => ⟨(fun z => by cases z), (fun z => by cases z)⟩, rfl⟩
theorem map_some {α β : Type} {o : Option α} {h : α → β} {y : β} (e : o.map h = some y) : ∃ x, o = some x ∧ h x = y := by
  cases o with
  | none => cases e
  | some x => exact ⟨x, rfl, Option.some.inj e⟩
theorem Is.less {O : Addr → Prop} (h : R K O0 H r σ) (hi : Is K (Ow O0 r σ) H1 d v) (s : Same H H1) : Is K O0 H1 d v := Is.mono (Same.kp (Same.refl H1) _) (h.same s).ol (fun _ z _ => .inl z) _ _ hi
end
section
variable {X : Cx} {pos : Pos} {e : Expr} {f : ME} {fl : ML} {g h : MS} {st : Stmt} {rest : List Stmt}
theorem ds_nil : DSs X [] sSkip := PSs.conseq pss_nil fun Dn σ H ⟨O0, r, f', hR, e, q⟩ => by
  unfold sSkip at e; cases e
  exact q σ H hR (Kp.refl H r σ)
theorem ds_cons (h1 : DS X st g) (h2 : DSs X rest h) : DSs X (st :: rest) (sSeq g h) := by
  refine PSs.conseq (pss_cons h1 h2) fun Dn σ H hq => ?_
  obtain ⟨O0, r, fl, hR, e, q⟩ := hq
  obtain ⟨f1, e1, e2⟩ := bind_some e
  cases f1 with
  | nx r1 => exact ⟨O0, r, .nx r1, hR, e1, fun σ' H' R' k => ⟨O0, r1, fl, R', e2, q.before R' k⟩⟩
  | bk r1 => cases e2; exact ⟨O0, r, _, hR, e1, q⟩
  | ct r1 => cases e2; exact ⟨O0, r, _, hR, e1, q⟩
  | rt d r1 => cases e2; exact ⟨O0, r, _, hR, e1, q⟩
  | rf l r1 => cases e2; exact ⟨O0, r, _, hR, e1, q⟩
theorem ds_one (h1 : DS X st g) : DSs X [st] g := pss_one h1
theorem ds_set (i : Nat) {x : Str} {pos' : Pos} (he : DE X e f) (hN : X.N.Nodup) (hi : X.N[i]? = some x := by rfl) (hx : Loc X.env.scope x := by first | exact Or.inl rfl | exact Or.inr rfl) (hs : swapsWith e (some (.Name x pos')) pos.line X.env = pure false := by rfl) (hf : X.fn x = true ∨ X.env.scope.names.lookup x = some .local := by first | exact .inl rfl | exact .inr rfl) :
    DS X (.Assign [.Name x pos'] e pos) (sSet i f) := by
  refine PS.conseq (ps_set hN hi hx he hs hf) fun Dn σ H hq => ?_
  obtain ⟨O0, r, fl, hR, e, q⟩ := hq
  obtain ⟨d, e1, e2⟩ := bind_some e
  obtain ⟨r', e3, rfl⟩ := map_some e2
  obtain ⟨hl, np, rfl⟩ := setV_some e3
  refine ⟨O0, r, d, hR, e1, fun v H1 s1 i1 => ?_⟩
  obtain ⟨R1, k1⟩ := (hR.same s1).setv hl np i1
  exact q _ H1 R1 ((Kp.of_same r σ s1).trans k1)
theorem ds_own (i : Nat) {x : Str} {pos' : Pos} (he : DF X e fl) (hN : X.N.Nodup) (hi : X.N[i]? = some x := by rfl) (hx : Loc X.env.scope x := by first | exact Or.inl rfl | exact Or.inr rfl) (hs : swapsWith e (some (.Name x pos')) pos.line X.env = pure false := by rfl) (hf : X.fn x = true ∨ X.env.scope.names.lookup x = some .local := by first | exact .inl rfl | exact .inr rfl) :
    DS X (.Assign [.Name x pos'] e pos) (sOwn i fl) := by
  refine PS.conseq (ps_set hN hi hx he hs hf) fun Dn σ H hq => ?_
  obtain ⟨O0, r, fl', hR, e, q⟩ := hq
  obtain ⟨l, e1, e2⟩ := bind_some e
  obtain ⟨r', e4, rfl⟩ := map_some e2
  obtain ⟨hl, np, rfl⟩ := setO_some e4
  refine ⟨O0, r, l, hR, e1, fun p xs H1 s1 n1 e3 i1 => ?_⟩
  obtain ⟨R1, k1⟩ := hR.seto s1 n1 e3 i1 hl np
  exact q _ H1 R1 k1
theorem ds_ret (he : DE X e f) : DS X (.Return (some e) pos) (sRet f) := by
  refine PS.conseq (ps_ret he) fun Dn σ H hq => ?_
  obtain ⟨O0, r, fl, hR, e, q⟩ := hq
  obtain ⟨d, e1, rfl⟩ := map_some e
  exact ⟨O0, r, d, hR, e1, fun v H1 s1 i1 => q v σ H1 (hR.same s1) (Kp.of_same r σ s1) (Is.less (O := O0) hR i1 s1)⟩
theorem ds_retOwn (i : Nat) {x : Str} {pos' : Pos} (h : PE X (.Name x pos') (tVar i)) : DS X (.Return (some (.Name x pos')) pos) (sRetOwn i) := by
  refine PS.conseq (ps_ret h) fun Dn σ H hq => ?_
  obtain ⟨O0, r, fl', hR, e, q⟩ := hq
  unfold sRetOwn at e
  have ⟨l, e1, e2⟩ : ∃ l, r[i]? = some (.o l) ∧ fl' = .rf l r := by
    split at e
    · rename_i l h; cases e; exact ⟨l, h, rfl⟩
    · cases e
  subst e2
  obtain ⟨a, xs, q1, q2, q3⟩ := hR.own i l (by rw [e1]; rfl)
  refine ⟨.ref a, q1, q a xs σ H hR (Kp.refl H r σ) (.inr ⟨i, l, e1, q1⟩) (hR.loc i l a (.inl e1) q1) q2 ?_⟩
  exact IsL.mono (Same.kp (Same.refl H) _) hR.ol (fun b z _ => z.elim .inl fun z => by subst z; exact .inr ⟨i, l, by rw [e1]; rfl, q1⟩) _ _ q3
theorem ds_if {c : Expr} {sa sb : List Stmt} {tc : MB} (hc : DT X c tc) (ha : DSs X sa g) (hb : DSs X sb h) : DS X (.If c sa sb pos) (sIf tc g h) := by
  refine PS.conseq (ps_if hc ha hb) fun Dn σ H hq => ?_
  obtain ⟨O0, r, fl', hR, e, q⟩ := hq
  obtain ⟨k, e1, e2⟩ := bind_some e
  refine ⟨O0, r, k, hR, e1, fun H1 s1 => ?_⟩
  have R1 := hR.same s1
  have q1 := PostS.before R1 (Kp.of_same r σ s1) q
  cases k with
  | true => rw [if_pos rfl] at e2; exact iteT ⟨O0, r, fl', R1, e2, q1⟩
  | false => rw [if_neg Bool.false_ne_true] at e2; exact iteF ⟨O0, r, fl', R1, e2, q1⟩
theorem ds_x {fx : En → Option (D × En)} (he : DX X e fx) (hs : swapsWith e none pos.line X.env = pure false := by rfl) : DS X (.Expr e pos) (sX fx) := by
  refine PS.conseq (ps_expr he hs) fun Dn σ H hq => ?_
  obtain ⟨O0, r, fl', hR, e, q⟩ := hq
  obtain ⟨⟨d, r'⟩, e1, rfl⟩ := map_some e
  exact ⟨O0, r, d, r', hR, e1, fun v H1 R1 k1 i1 => q σ H1 R1 k1⟩
end
def lG (K : Fg) (bd : D → En → Option En) : TG := fun v σ H Q => ∃ O0 r d r', R K O0 H r σ ∧ Is K (Ow O0 r σ) H d v ∧ bd d r = some r' ∧ ∀ σ', R K O0 H r' σ' → Kp H r σ H r' σ' → Q σ' H
def DG (X : Cx) (tg : Expr) (bd : D → En → Option En) : Prop := PG X tg (lG X.K bd)
def Ylds (K : Fg) (O M : Addr → Prop) (H0 : Hp) (J : It) (l : List D) : Prop := ∀ (i : Nat) (H : Hp) (O' : Addr → Prop), Keep M H0 H → (∀ a, O' a → H0 a ≠ none → O a) →
  (i < l.length → J.go i H ∧ ∀ x H', J.yld i H x H' → Same H H' ∧ ∀ d, l[i]? = some d → Is K O' H' d x) ∧ (i = l.length → J.stop i H)
def lI (K : Fg) (it : ML) : TI := fun σ H Rr => ∃ O0 r l, R K O0 H r σ ∧ it r = some l ∧ ∀ J H', Same H H' → Ylds K (Ow O0 r σ) (MutAt r σ) H' J l → Rr J H'
def DI (X : Cx) (tg iter : Expr) (it : ML) : Prop := PI X tg iter (lI X.K it)
theorem PG.conseq {X : Cx} {e : Expr} {t t' : TG} (h : PG X e t) (i : ∀ v σ H Q, t' v σ H Q → t v σ H Q) : PG X e t' := fun pins s σ H v u Q I r q => h pins s σ H v u Q I r (i v σ H Q q)
theorem PI.conseq {X : Cx} {tg e : Expr} {t t' : TI} (h : PI X tg e t) (i : ∀ σ H Q, t' σ H Q → t σ H Q) : PI X tg e t' := fun pins s σ H Q I q => h pins s σ H Q I (i σ H Q q)
theorem drop_cons {α : Type} {l : List α} {i : Nat} {d : α} (h : l[i]? = some d) : l.drop i = d :: l.drop (i + 1) := by
  obtain ⟨lt, eq⟩ := List.getElem?_eq_some_iff.mp h
  rw [← eq, List.drop_eq_getElem_cons lt]
section
variable {X : Cx} {pos : Pos} {tg iter : Expr} {bd : D → En → Option En} {it : ML} {g : MS} {body : List Stmt}
theorem ds_for (hp : PassesOwn (model X.prog X.w) X.A X.env X.xe) (hc : X.calm = true) (hi : DI X tg iter it) (hg : DG X tg bd) (hb : DSs X body g) (hs : ∀ x, foldedSetIterable iter X.env x = pure x := by intro _; rfl) :
    DS X (.For tg iter body [] pos) (sFor bd it g) := by
  refine PS.conseq (ps_for hp hc hi hg hb hs) fun Dn σ H hq => ?_
  obtain ⟨O0, r, fl, hR, e, q⟩ := hq
  obtain ⟨l, e1, e2⟩ := bind_some e
  refine ⟨O0, r, l, hR, e1, fun J H0 s0 yl => ?_⟩
  have R0 := hR.same s0
  refine ⟨fun i m σ1 H1 => m = l.length - i ∧ i ≤ l.length ∧ ∃ r1, R X.K O0 H1 r1 σ1 ∧ Kp H0 r σ H1 r1 σ1 ∧ forL bd g (l.drop i) r1 = some fl, ⟨l.length, by simp, Nat.zero_le _, r, R0, Kp.refl H0 r σ, by simpa using e2⟩, ?_⟩
  rintro i m σ1 H1 ⟨rfl, hil, r1, R1, k1, e3⟩
  have k0 := (Kp.of_same r σ s0).trans k1
  obtain ⟨y1, y2⟩ := yl i H1 (Ow O0 r1 σ1) k1.keep fun a z n => z.elim .inl fun z => (k1.new a z).elim .inr fun z => absurd z n
  by_cases hlt : i < l.length
  · obtain ⟨go, yd⟩ := y1 hlt
    have hd : l[i]? = some l[i] := by simp [hlt]
    rw [drop_cons hd] at e3
    obtain ⟨r2, e4, e5⟩ := bind_some e3
    obtain ⟨f1, e6, e7⟩ := bind_some e5
    refine .inr ⟨go, fun σ3 H3 => ∃ r3, R X.K O0 H3 r3 σ3 ∧ Kp H0 r σ H3 r3 σ3 ∧ forL bd g (l.drop (i + 1)) r3 = some fl, fun σ3 H3 z => ⟨l.length - (i + 1), by omega, rfl, hlt, z⟩, fun x H2 yx => ?_⟩
    obtain ⟨s2, ix⟩ := yd x H2 yx
    have R2 := R1.same s2
    refine ⟨O0, r1, l[i], r2, R2, ix _ hd, e4, fun σ2 R2' k2 => ⟨O0, r2, f1, R2', e6, ?_⟩⟩
    have k3 := (k1.trans (Kp.of_same r1 σ1 s2)).trans k2
    have k4 := (k0.trans (Kp.of_same r1 σ1 s2)).trans k2
    cases f1 with
    | nx r3 => exact fun σ3 H3 R3 kk => ⟨r3, R3, k3.trans kk, e7⟩
    | ct r3 => exact fun σ3 H3 R3 kk => ⟨r3, R3, k3.trans kk, e7⟩
    | bk r3 => cases e7; exact fun σ3 H3 R3 kk => q σ3 H3 R3 (k4.trans kk)
    | rt d r3 => cases e7; exact PostS.before R2' k4 q
    | rf l' r3 => cases e7; exact PostS.before R2' k4 q
  · have hl : l.drop i = [] := List.drop_eq_nil_of_le (by omega)
    rw [hl] at e3
    cases e3
    exact .inl ⟨y2 (by omega), q σ1 H1 R1 k0⟩
theorem dg_name (i : Nat) {x : Str} (hN : X.N.Nodup) (hi : X.N[i]? = some x := by rfl) (hx : Loc X.env.scope x := by first | exact Or.inl rfl | exact Or.inr rfl) (hf : X.fn x = true ∨ X.env.scope.names.lookup x = some .local := by first | exact .inl rfl | exact .inr rfl) : DG X (.Name x pos) (setV i) := by
  refine PG.conseq (pg_name hN hi hx hf) fun v σ H Q h => ?_
  obtain ⟨O0, r, d, r', hR, iv, e, q⟩ := h
  obtain ⟨hl, np, rfl⟩ := setV_some e
  obtain ⟨R1, k1⟩ := hR.setv hl np iv
  exact q _ R1 k1
def bdNil : List D → En → Option En := fun l r => if l.isEmpty then some r else none
def bdCons (b : D → En → Option En) (bs : List D → En → Option En) : List D → En → Option En := fun l r => match l with
  | [] => none
  | d :: t => (b d r).bind fun r1 => bs t r1
def lGs (K : Fg) (bs : List D → En → Option En) : TGs := fun vs σ H Q => ∃ O0 r l r', R K O0 H r σ ∧ IsL K (Ow O0 r σ) H l vs ∧ bs l r = some r' ∧ ∀ σ', R K O0 H r' σ' → Kp H r σ H r' σ' → Q σ' H
def DGs (X : Cx) (ts : List Expr) (bs : List D → En → Option En) : Prop := PGs X ts (lGs X.K bs)
theorem PGs.conseq {e : List Expr} {t t' : TGs} (h : PGs X e t) (i : ∀ v σ H Q, t' v σ H Q → t v σ H Q) : PGs X e t' := fun pins s σ H v u Q I r q => h pins s σ H v u Q I r (i v σ H Q q)
theorem dgs_nil : DGs X [] bdNil := by
  refine PGs.conseq pgs_nil fun vs σ H Q h => ?_
  obtain ⟨O0, r, l, r', hR, il, e, q⟩ := h
  unfold bdNil at e
  cases l with
  | nil =>
    unfold IsL at il
    cases e
    exact ⟨il, q σ hR (Kp.refl H r σ)⟩
  | cons d l => cases e
theorem dgs_cons {e : Expr} {es : List Expr} {bs : List D → En → Option En} (h1 : DG X e bd) (h2 : DGs X es bs) (hs : (assignEach (e :: es) X.env).map (·.2) = assign e X.env :: (assignEach es X.env).map (·.2) := by rfl) : DGs X (e :: es) (bdCons bd bs) := by
  refine PGs.conseq (pgs_cons h1 h2 hs) fun vs σ H Q h => ?_
  obtain ⟨O0, r, l, r', hR, il, e, q⟩ := h
  cases l with
  | nil => cases e
  | cons d t =>
    unfold IsL at il
    obtain ⟨v, us, rfl, i1, i2⟩ := il
    obtain ⟨r1, e1, e2⟩ := bind_some e
    refine ⟨v, us, rfl, O0, r, d, r1, hR, i1, e1, fun σ1 R1 k1 => ⟨O0, r1, t, r', R1, ?_, e2, fun σ2 R2 k2 => q σ2 R2 (k1.trans k2)⟩⟩
    exact IsL.mono (Same.kp (Same.refl H) _) hR.ol (fun a z n => z.elim .inl fun z => (k1.new a z).elim .inr fun z => absurd z n) _ _ i2
end
inductive Rs where
  | v (d : D) | f (l : List D)
abbrev MF := List Sl → Option (Rs × List Sl)
structure PostF (K : Fg) (O0 : Addr → Prop) (H : Hp) (as : List Sl) (vs : List V) (H' : Hp) (as' : List Sl) : Prop where
  keep : Keep (MutAt as (vs.map some)) H H'
  live : ∀ b, H' b = none → H b = none
  lst : ∀ b xs, H b = some (.lst xs) → ∃ ys, H' b = some (.lst ys)
  par : ∀ (i : Nat) (l : List D), as[i]? = some (.p l) → ∃ l' a xs, as'[i]? = some (.p l') ∧ vs[i]? = some (.ref a) ∧ H' a = some (.lst xs) ∧ IsL K O0 H' l' xs
def RsP (K : Fg) (O0 : Addr → Prop) (H : Hp) (as : List Sl) (vs : List V) (as' : List Sl) (Q : VK) : Rs → Prop
  | .v d => ∀ v H', PostF K O0 H as vs H' as' → Is K O0 H' d v → Q v H'
  | .f l => ∀ a xs H', PostF K O0 H as vs H' as' → H a = none → H' a = some (.lst xs) → IsL K (fun b => O0 b ∨ b = a) H' l xs → Q (.ref a) H'
def spD (K : Fg) (n : Nat) (m : MF) : Sp := fun vs H Q _ => ∃ O0 as rs as', as.length = n ∧ R K O0 H as (vs.map some) ∧ (∀ (i : Nat) (l : List D), as[i]? ≠ some (.o l) ∧ as[i]? ≠ some (.z l)) ∧ m as = some (rs, as') ∧ RsP K O0 H as vs as' Q rs
def mkF (n N : Nat) (g : MS) : MF := fun as => (g (as ++ List.replicate (N - n) .un)).bind fun fl => match fl with
  | .rt d r' => some (.v d, r'.take n)
  | .rf l r' => some (.f l, r'.take n)
  | .nx r' => some (.v .non, r'.take n)
  | _ => none
section
variable {P : Program} {w : World} {K : Fg} {mg : Str → Option Value} {base : Heap}
theorem own_start {q : Sl → Option (List D)} (hq : q .un = none) {as : List Sl} {vs : List V} {k n : Nat} {a : Addr} (hl : as.length = vs.length) : AtS q (as ++ List.replicate k .un) (vs.map some ++ List.replicate n none) a ↔ AtS q as (vs.map some) a := by
  constructor
  · rintro ⟨i, l, e, q'⟩
    by_cases hi : i < as.length
    · rw [List.getElem?_append_left hi] at e
      rw [List.getElem?_append_left (by simp; omega)] at q'
      exact ⟨i, l, e, q'⟩
    · rw [List.getElem?_append_right (by omega), List.getElem?_replicate] at e
      split at e
      · have e' : q .un = some l := e
        rw [hq] at e'; cases e'
      · cases e
  · rintro ⟨i, l, e, q'⟩
    have hi : i < as.length := by
      cases e1 : as[i]? with
      | none => rw [e1] at e; cases e
      | some x => exact (List.getElem?_eq_some_iff.mp e1).1
    exact ⟨i, l, by rw [List.getElem?_append_left hi]; exact e, by rw [List.getElem?_append_left (by simp; omega)]; exact q'⟩
theorem R.start {O0 : Addr → Prop} {H : Hp} {as : List Sl} {vs : List V} {k : Nat} (h : R K O0 H as (vs.map some)) : R K O0 H (as ++ List.replicate k .un) (vs.map some ++ List.replicate k none) := by
  have hl : as.length = vs.length := by simpa using h.len
  have own : ∀ a, Ow O0 (as ++ List.replicate k .un) (vs.map some ++ List.replicate k none) a → H a ≠ none → Ow O0 as (vs.map some) a := fun a z _ => z.imp id (own_start rfl hl).mp
  have pre : ∀ (i : Nat) (x : Sl), (as ++ List.replicate k .un)[i]? = some x → x ≠ .un → as[i]? = some x ∧ (vs.map some ++ List.replicate k none)[i]? = (vs.map some)[i]? := fun i x e n => by
    by_cases hi : i < as.length
    · rw [List.getElem?_append_left hi] at e
      exact ⟨e, List.getElem?_append_left (by simp; omega)⟩
    · rw [List.getElem?_append_right (by omega), List.getElem?_replicate] at e
      split at e
      · cases e; exact absurd rfl n
      · cases e
  have preO : ∀ (i : Nat) (l : List D), ((as ++ List.replicate k .un)[i]?).bind Sl.own = some l → (as[i]?).bind Sl.own = some l ∧ (vs.map some ++ List.replicate k none)[i]? = (vs.map some)[i]? := fun i l e => by
    cases e1 : (as ++ List.replicate k .un)[i]? with
    | none => rw [e1] at e; cases e
    | some x =>
      obtain ⟨q1, q2⟩ := pre i x e1 (by rintro rfl; rw [e1] at e; cases e)
      rw [e1] at e
      exact ⟨by rw [q1]; exact e, q2⟩
  refine ⟨by simp [hl], fun i d e => ?_, fun i l e => ?_, fun i j a l m e1 e2 q1 q2 => ?_, h.o0, fun i l a e q => ?_, fun i l a e q => ?_⟩
  · obtain ⟨q1, q2⟩ := pre i _ e (by intro z; cases z)
    obtain ⟨v, e3, q3⟩ := h.val i d q1
    exact ⟨v, q2.trans e3, Is.mono (Same.kp (Same.refl H) _) h.ol own _ _ q3⟩
  · obtain ⟨q1, q2⟩ := preO i l e
    obtain ⟨a, xs, e3, e4, q3⟩ := h.own i l q1
    exact ⟨a, xs, q2.trans e3, e4, IsL.mono (Same.kp (Same.refl H) _) h.ol own _ _ q3⟩
  · obtain ⟨p1, p2⟩ := preO i l e1
    obtain ⟨p3, p4⟩ := preO j m e2
    exact h.apart i j a l m p1 p3 (p2 ▸ q1) (p4 ▸ q2)
  · rcases e with e | e
    · obtain ⟨p1, p2⟩ := pre i _ e (by intro z; cases z)
      exact h.loc i l a (.inl p1) (p2 ▸ q)
    · obtain ⟨p1, p2⟩ := pre i _ e (by intro z; cases z)
      exact h.loc i l a (.inr p1) (p2 ▸ q)
  · obtain ⟨p1, p2⟩ := pre i _ e (by intro z; cases z)
    exact h.par i l a p1 (p2 ▸ q)
theorem fn_d {x qual : Str} {st : Stmt} {f : Addr} {fd : FuncData} {N ps : List Str} {k : Nat} {g : MS} (F : Fun K x qual st f fd) (S : FnScope N ps (defScope st)) (n : Nat) (nN : Nat) (hn : ps.length = n := by rfl) (hN : N.length = nN := by rfl)
    (hb : ∀ (cdv : Value) (A : Around) (outer : List Env) (s : Shared) (H : Hp) (E : XK), Room k (A.deeper (envOfC qual (defScope st) s.heap.objs.size f cdv)) →
      DSs (cxOf CX0 P w K mg base N qual (defScope st) f cdv A outer s H E).nox (defBody st) g) : FnOk P w K mg base CX0 (k + 1) f fd ps (spD K n (mkF n nN g)) := by
  subst hn hN
  refine F.ok S (fun vs H Q E h => ?_) (fun cdv A outer s H vs Q E hr h => ?_)
  · obtain ⟨O0, as, rs, as', hl, hR, _⟩ := h
    have := hR.len
    simp at this; omega
  · obtain ⟨O0, as, rs, as', hl, hR, no, e, q⟩ := h
    have hlv : as.length = vs.length := by simpa using hR.len
    refine ⟨_, hb cdv A outer s H E hr, ?_⟩
    obtain ⟨fl, e1, e2⟩ := bind_some e
    have hst : L2.start N vs = vs.map some ++ List.replicate (N.length - ps.length) none := by unfold L2.start; rw [← hlv, hl]
    rw [hst]
    have R0 := R.start (k := N.length - ps.length) hR
    have fin : ∀ (σ' : St) (H' : Hp) (r' : En), R K O0 H' r' σ' → Kp H (as ++ List.replicate (N.length - ps.length) .un) (vs.map some ++ List.replicate (N.length - ps.length) none) H' r' σ' → PostF K O0 H as vs H' (r'.take ps.length) := fun σ' H' r' R' k' => by
      refine ⟨fun b o eb nb => k'.keep b o eb fun z => nb ((own_start rfl hlv).mp z), k'.live, k'.lst, fun i l ei => ?_⟩
      have hi : i < as.length := (List.getElem?_eq_some_iff.mp ei).1
      obtain ⟨⟨l', e3⟩, e4⟩ := k'.par i l (by rw [List.getElem?_append_left hi]; exact ei)
      rw [List.getElem?_append_left (by simp; omega)] at e4
      obtain ⟨a, xs, e5, e6, e7⟩ := R'.own i l' (by rw [e3]; rfl)
      rw [e4] at e5
      have ev : vs[i]? = some (.ref a) := by
        rw [List.getElem?_map] at e5
        cases e8 : vs[i]? with
        | none => rw [e8] at e5; cases e5
        | some y => rw [e8] at e5; cases e5; rfl
      exact ⟨l', a, xs, by rw [List.getElem?_take_of_lt (by omega)]; exact e3, ev, e6, IsL.mono (Same.kp (Same.refl H') _) R'.ol (fun _ z _ => .inl z) _ _ e7⟩
    refine ⟨O0, _, fl, R0, e1, ?_⟩
    cases fl with
    | nx r' => cases e2; exact fun σ' H' R' k' => q .non H' (fin σ' H' r' R' k') (by rw [Is.non_iff])
    | bk r' => cases e2
    | ct r' => cases e2
    | rt d r' => cases e2; exact fun v σ' H' R' k' i' => q v H' (fin σ' H' r' R' k') i'
    | rf l r' =>
      cases e2
      refine fun a xs σ' H' R' k' fr no0 ea il => q a xs H' (fin σ' H' r' R' k') ?_ ea il
      rcases fr with z | ⟨i, m, ei, _⟩
      · exact z
      · exfalso
        by_cases hi : i < as.length
        · rw [List.getElem?_append_left hi] at ei; exact (no i m).1 ei
        · rw [List.getElem?_append_right (by omega), List.getElem?_replicate] at ei
          split at ei <;> cases ei
end
def rsD : Rs → D
  | .v d => d
  | .f l => .lst l
def mCall (n : Nat) (m : MF) (fs : ML) : ME := fun r => (fs r).bind fun ds => if ds.length = n then (m (ds.map .v)).map fun p => rsD p.1 else none
def mCallF (n : Nat) (m : MF) (fs : ML) : ML := fun r => (fs r).bind fun ds => if ds.length = n then (m (ds.map .v)).bind fun p => match p.1 with
  | .f l => some l
  | _ => none
  else none
section
variable {K : Fg}
theorem R.args {O : Addr → Prop} {H : Hp} {ds : List D} {vs : List V} (ol : OLst O H) (h : IsL K O H ds vs) : R K O H (ds.map .v) (vs.map some) := by
  have no : ∀ (i : Nat) (l : List D), ((ds.map Sl.v)[i]?).bind Sl.own ≠ some l := fun i l e => by
    rw [List.getElem?_map] at e
    cases e1 : ds[i]? with
    | none => rw [e1] at e; cases e
    | some x => rw [e1] at e; cases e
  refine ⟨by simp [h.length], fun i d e => ?_, fun i l e => absurd e (no i l), fun i j a l m e1 => absurd e1 (no i l), ol, fun i l a e => absurd (show ((ds.map Sl.v)[i]?).bind Sl.own = some l by rcases e with e | e <;> rw [e] <;> rfl) (no i l), fun i l a e => absurd (show ((ds.map Sl.v)[i]?).bind Sl.own = some l by rw [e]; rfl) (no i l)⟩
  rw [List.getElem?_map] at e
  cases e1 : ds[i]? with
  | none => rw [e1] at e; cases e
  | some x =>
    rw [e1] at e; cases e
    obtain ⟨v, e2, q⟩ := h.get e1
    exact ⟨v, by rw [List.getElem?_map, e2]; rfl, Is.mono (Same.kp (Same.refl H) _) ol (fun a z _ => z.elim id fun ⟨j, l, ej, _⟩ => absurd ej (no j l)) _ _ q⟩
theorem own_none {ds : List D} {σ : St} {a : Addr} : ¬ MutAt (ds.map .v) σ a := fun ⟨i, l, e, _⟩ => by
  rw [List.getElem?_map] at e
  cases e1 : ds[i]? with
  | none => rw [e1] at e; cases e
  | some x => rw [e1] at e; cases e
theorem PostF.same {O0 : Addr → Prop} {H H' : Hp} {ds : List D} {vs : List V} {as' : List Sl} (h : PostF K O0 H (ds.map .v) vs H' as') : Same H H' := fun b o e => h.keep b o e own_none
end
section
variable {X : Cx} {k n : Nat} {f : Addr} {fd : FuncData} {ps : List Str} {m : MF} {x : Str} {p pos : Pos} {e : Expr} {es : List Expr} {fs : ML}
theorem sp_pure {O0 : Addr → Prop} {r : En} {σ : St} {H H1 : Hp} {ds : List D} {vs : List V} {rs : Rs} {as' : List Sl} {Q : VK} {E : XK} (hR : R X.K O0 H r σ) (s1 : Same H H1) (il : IsL X.K (Ow O0 r σ) H1 ds vs) (hl : ds.length = n) (em : m (ds.map .v) = some (rs, as'))
    (q : RsP X.K (Ow O0 r σ) H1 (ds.map .v) vs as' Q rs) : spD X.K n m (vs ++ []) H1 Q E := by
  rw [List.append_nil]
  refine ⟨Ow O0 r σ, ds.map .v, rs, as', by simpa using hl, R.args (hR.same s1).ol il, fun i l => ?_, em, q⟩
  rw [List.getElem?_map]
  cases e1 : ds[i]? with
  | none => exact ⟨(fun z => by cases z), (fun z => by cases z)⟩
  | some y => exact ⟨(fun z => by cases z), (fun z => by cases z)⟩
theorem de_call (F : FnOk X.prog X.w X.K X.mg X.base CX0 k f fd ps (spD X.K n m)) (hr : Room k X.A) (hg : Gl X x) (hm : X.mg x = some (.ref f)) (hk : PySem.W.keepIn X.K (.ref f) = true) (hb : Binds X.K fd ps []) (ha : DA X (e :: es) fs)
    (hdb : (x == ("__debug__" : Str)) = false := by decide) (he : starEach (e :: es) X.env = (false, eval e X.env) :: starEach es X.env := by rfl) (hpl : (backTo pos (starEach es X.env)).any (·.1) = false := by rfl) :
    DE X (.Call (.Name x p) (e :: es) [] pos) (mCall n m fs) := by
  refine PE.conseq (pe_call (E := fun _ _ _ => False) (dvs := []) F hr hg hm hk hb .nil pass0 ha hdb he hpl) fun σ H Q h => ?_
  obtain ⟨O0, r, d, hR, e, q⟩ := h
  obtain ⟨ds, e1, e2⟩ := bind_some e
  split at e2
  · rename_i hl
    obtain ⟨⟨rs, as'⟩, e3, rfl⟩ := map_some e2
    refine ⟨O0, r, ds, hR, e1, fun vs H1 s1 il => sp_pure hR s1 il hl e3 ?_⟩
    cases rs with
    | v d => exact fun v H2 pf iv => q v H2 (s1.trans pf.same) iv
    | f l =>
      refine fun a xs H2 pf na ea il2 => q _ H2 (s1.trans pf.same) ?_
      have R1 := hR.same s1
      have olp : OLst (fun b => Ow O0 r σ b ∨ b = a) H2 := fun b z => z.elim (fun z => (R1.same pf.same).ol b z) fun z => by subst z; exact ⟨xs, ea⟩
      show Is X.K (Ow O0 r σ) H2 (.lst l) (.ref a)
      rw [Is.lst_iff]
      exact ⟨a, xs, rfl, .inl ⟨R1.nofresh na, .inl ea⟩, IsL.mono (Same.kp (Same.refl H2) _) olp (fun _ z _ => .inl z) _ _ il2⟩
  · cases e2
theorem df_call (F : FnOk X.prog X.w X.K X.mg X.base CX0 k f fd ps (spD X.K n m)) (hr : Room k X.A) (hg : Gl X x) (hm : X.mg x = some (.ref f)) (hk : PySem.W.keepIn X.K (.ref f) = true) (hb : Binds X.K fd ps []) (ha : DA X (e :: es) fs)
    (hdb : (x == ("__debug__" : Str)) = false := by decide) (he : starEach (e :: es) X.env = (false, eval e X.env) :: starEach es X.env := by rfl) (hpl : (backTo pos (starEach es X.env)).any (·.1) = false := by rfl) :
    DF X (.Call (.Name x p) (e :: es) [] pos) (mCallF n m fs) := by
  refine PE.conseq (pe_call (E := fun _ _ _ => False) (dvs := []) F hr hg hm hk hb .nil pass0 ha hdb he hpl) fun σ H Q h => ?_
  obtain ⟨O0, r, l, hR, e, q⟩ := h
  obtain ⟨ds, e1, e2⟩ := bind_some e
  split at e2
  · rename_i hl
    obtain ⟨⟨rs, as'⟩, e3, e4⟩ := bind_some e2
    refine ⟨O0, r, ds, hR, e1, fun vs H1 s1 il => sp_pure hR s1 il hl e3 ?_⟩
    cases rs with
    | v d => cases e4
    | f l' => cases e4; exact fun a xs H2 pf na ea il2 => q a xs H2 (s1.trans pf.same) (s1.free na) ea il2
  · cases e2
end
section
variable {X : Cx} {tg l : Expr} {f : ME} {p pos : Pos}
def itemsD : D → Option (List D)
  | .lst l => some l
  | .tup l => some l
  | _ => none
def mIt (f : ME) : ML := fun r => (f r).bind itemsD
theorem get_of_lt {l : List D} {i : Nat} (h : i < l.length) : ∃ d, l[i]? = some d := ⟨l[i], by simp [h]⟩
theorem yl_list {K : Fg} {O M : Addr → Prop} (mo : ∀ a, M a → O a) {H : Hp} {a : Addr} {xs : List V} {ds : List D} (ol : OLst O H) (rd : ∀ H1, Keep M H H1 → SqL K H1 a xs) (il : IsL K O H ds xs): Ylds K O M H (Itl K a) ds := by
  intro i H1 O' kp oo
  have kp' : Keep O H H1 := fun b o e n => kp b o e fun z => n (mo b z)
  have rd1 : SqL K H1 a xs := rd H1 kp
  refine ⟨fun hi => ⟨?_, fun x H' y => ?_⟩, fun hi => ⟨xs, rd1, by rw [← il.length]; exact Nat.le_of_eq hi.symm⟩⟩
  · obtain ⟨d, e⟩ := get_of_lt hi
    obtain ⟨v, e1, _⟩ := il.get e
    exact ⟨xs, v, rd1, e1⟩
  · obtain ⟨rfl, y⟩ := y
    refine ⟨Same.refl _, fun d e => ?_⟩
    obtain ⟨v, e1, q⟩ := il.get e
    have := y xs rd1
    rw [e1] at this; cases this
    exact Is.mono kp' ol oo _ _ q
theorem yl_tup {K : Fg} {O M : Addr → Prop} (mo : ∀ a, M a → O a) {H : Hp} {a : Addr} {xs : List V} {ds : List D} (ol : OLst O H) (rd : SqT K H a xs) (il : IsL K O H ds xs) : Ylds K O M H (Itt K a) ds := by
  intro i H1 O' kp oo
  have kp' : Keep O H H1 := fun b o e n => kp b o e fun z => n (mo b z)
  have rd1 : SqT K H1 a xs := SqT.keep kp' ol rd
  refine ⟨fun hi => ⟨?_, fun x H' y => ?_⟩, fun hi => ⟨xs, rd1, by rw [← il.length]; exact Nat.le_of_eq hi.symm⟩⟩
  · obtain ⟨d, e⟩ := get_of_lt hi
    obtain ⟨v, e1, _⟩ := il.get e
    exact ⟨xs, v, rd1, e1⟩
  · obtain ⟨rfl, y⟩ := y
    refine ⟨Same.refl _, fun d e => ?_⟩
    obtain ⟨v, e1, q⟩ := il.get e
    have := y xs rd1
    rw [e1] at this; cases this
    exact Is.mono kp' ol oo _ _ q
theorem pi_seq {tl : TE} (hl : PE X l tl) : PI X tg l (fun σ H Rr => tl σ H fun x H1 => ∃ a, x = .ref a ∧ (((∃ xs, SqL X.K H1 a xs) ∧ Rr (Itl X.K a) H1) ∨ ((∃ xs, SqT X.K H1 a xs) ∧ Rr (Itt X.K a) H1))) := by
  intro pins s σ H R I h
  refine thn (hl pins s σ H _ I h) fun v s1 ⟨x, H1, I1, r1, q1⟩ => ?_
  obtain ⟨a, e, q⟩ := q1
  subst e
  cases r1
  rcases q with ⟨⟨xs, hq⟩, q⟩ | ⟨⟨xs, hq⟩, q⟩
  · obtain ⟨its, rv, p, hz⟩ := I1.list hq
    refine wpAny_pyIter_list p.isList ?_
    refine ⟨s1.heap.objs.size, [s1.heap.objs.size], _, _, H1, rfl, I1.kept (t' := s1.toks) fun b o e => Heap.get?_push_of_some _ e, turn_list a _, ⟨_, Heap.get?_push_size _ rfl, rfl, rfl⟩, fun b hb => ?_, q⟩
    have e : b = s1.heap.objs.size := by simpa using hb
    subst e
    exact I1.fpOk (Nat.le_refl _) (I1.hok.fresh (Nat.le_refl _))
  · obtain ⟨its, rv, p, hz⟩ := I1.tuple hq
    refine wpAny_pyIter_tuple (show s1.heap.IsTuple a its.toArray from p) ?_
    refine ⟨s1.heap.objs.size, [s1.heap.objs.size], _, _, H1, rfl, I1.kept (t' := s1.toks) fun b o e => Heap.get?_push_of_some _ e, turn_tuple a _, ⟨_, Heap.get?_push_size _ rfl, rfl, rfl⟩, fun b hb => ?_, q⟩
    have e : b = s1.heap.objs.size := by simpa using hb
    subst e
    exact I1.fpOk (Nat.le_refl _) (I1.hok.fresh (Nat.le_refl _))
theorem di_seq (hl : DE X l f) : DI X tg l (mIt f) := by
  refine PI.conseq (pi_seq hl) fun σ H Rr h => ?_
  obtain ⟨O0, r, ds, hR, e, q⟩ := h
  obtain ⟨d, e1, e2⟩ := bind_some e
  refine ⟨O0, r, d, hR, e1, fun v H1 s1 i1 => ?_⟩
  have ol := (hR.same s1).ol
  cases d with
  | lst l' =>
    cases e2
    rw [Is.lst_iff] at i1
    obtain ⟨a, xs, rfl, rd, il⟩ := i1
    exact ⟨a, rfl, .inl ⟨⟨xs, rd.sq⟩, q _ H1 s1 (yl_list (fun a z => .inr z.own) ol (fun H2 k2 => rd.imp (fun z => Rd.keep k2 (fun y => z.1 (.inr y.own)) z.2) id) il)⟩⟩
  | tup l' =>
    cases e2
    rw [Is.tup_iff] at i1
    obtain ⟨a, xs, rfl, rd, il⟩ := i1
    exact ⟨a, rfl, .inr ⟨⟨xs, rd⟩, q _ H1 s1 (yl_tup (fun a z => .inr z.own) ol rd il)⟩⟩
  | _ => cases e2
def rngD (lo : Int) (n : Nat) : List D := (List.range n).map fun i => .int (lo + (i : Nat))
theorem yl_rng {K : Fg} {O M : Addr → Prop} {H : Hp} (lo : Int) (n : Nat) : Ylds K O M H (Itr lo n) (rngD lo n) := by
  intro i H1 O' kp oo
  have hl : (rngD lo n).length = n := by simp [rngD]
  refine ⟨fun hi => ⟨by rw [hl] at hi; exact hi, fun x H' y => ?_⟩, fun hi => by rw [hl] at hi; exact Nat.le_of_eq hi.symm⟩
  obtain ⟨rfl, rfl⟩ := y
  refine ⟨Same.refl _, fun d e => ?_⟩
  rw [hl] at hi
  unfold rngD at e
  rw [List.getElem?_map, List.getElem?_range hi] at e
  cases e
  rw [Is.int_iff]
def intD : D → Option Int
  | .int i => some i
  | _ => none
def mRng1 (f : ME) : ML := fun r => (f r).bind fun d => (intD d).bind fun j => if -(2 ^ 62) ≤ j ∧ j < 2 ^ 62 then some (rngD 0 j.toNat) else none
theorem intD_some {d : D} {i : Int} (e : intD d = some i) : d = .int i := by
  cases d <;> first | cases e; rfl | cases e
theorem di_rng1 (hg : Gl X "range") (hm : X.mg "range" = none) (ha : DE X l f) (hs : starEach [l] X.env = [(false, eval l X.env)] := by rfl) : DI X tg (.Call (.Name "range" p) [l] [] pos) (mRng1 f) := by
  refine PI.conseq (pi_range1 hg hm (pa_cons ha pa_nil hs) hs) fun σ H Rr h => ?_
  obtain ⟨O0, r, ds, hR, e, q⟩ := h
  obtain ⟨d, e1, e2⟩ := bind_some e
  obtain ⟨j, e3, e4⟩ := bind_some e2
  cases intD_some e3
  split at e4
  · rename_i hj
    cases e4
    refine ⟨O0, r, _, hR, e1, fun v H1 s1 i1 => ?_⟩
    rw [Is.int_iff] at i1
    exact ⟨j, by rw [i1], hj.1, hj.2, q _ H1 s1 (yl_rng 0 _)⟩
  · cases e4
end
def clOf (env : Env) : List (Str × NameKind) → List (Str × Addr) → List (Str × Addr)
  | [], acc => acc
  | (n, k) :: r, acc => if k = .free then clOf env r ((n, (env.cells.lookup n).getD 0) :: acc) else clOf env r acc
theorem closure_eq {env : Env} : ∀ (names : List (Str × NameKind)) (acc : List (Str × Addr)), (∀ y ∈ names, y.2 = .free → ∃ c, env.cells.lookup y.1 = some c) →
    (forIn names acc (fun (x : Str × NameKind) (cs : List (Str × Addr)) => match x with
      | (name, kind) => if (kind == NameKind.free) = true then do let a ← cellOf env name; pure (ForInStep.yield ((name, a) :: cs)) else pure (ForInStep.yield cs)) : Sem (List (Str × Addr))) = pure (clOf env names acc)
  | [], acc, _ => rfl
  | (n, k) :: r, acc, h => by
    rw [List.forIn_cons]
    by_cases hk : k = .free
    · obtain ⟨c, hc⟩ := h (n, k) List.mem_cons_self hk
      have ih := closure_eq r ((n, c) :: acc) fun y hy => h y (List.mem_cons_of_mem _ hy)
      subst hk
      show ((do let a ← cellOf env n; pure (ForInStep.yield ((n, a) :: acc))) >>= _ : Sem _) = _
      unfold cellOf
      rw [hc]
      unfold clOf
      rw [if_pos rfl, hc]
      exact ih
    · have hb : (k == NameKind.free) = false := by simpa using hk
      have ih := closure_eq r acc fun y hy => h y (List.mem_cons_of_mem _ hy)
      unfold clOf
      rw [if_neg hk]
      simp only [hb]
      exact ih
theorem closureFor_eq {scope : Scope} {env : Env} (h : ∀ y ∈ scope.names, y.2 = .free → ∃ c, env.cells.lookup y.1 = some c) : closureFor scope env = pure (clOf env scope.names []) := by
  unfold closureFor
  have := closure_eq (env := env) scope.names [] h
  first
    | exact this
    | (simp only [bind_pure]; exact this)
    | (rw [← this]; rfl)
theorem clOf_sub {env : Env} {x : Str} {c : Addr} : ∀ (names : List (Str × NameKind)) (acc : List (Str × Addr)), (∀ y ∈ names, y.2 = .free → ∃ c, env.cells.lookup y.1 = some c) → (∀ c, acc.lookup x = some c → env.cells.lookup x = some c) →
    (clOf env names acc).lookup x = some c → env.cells.lookup x = some c
  | [], acc, _, ha, e => ha c e
  | (n, k) :: r, acc, h, ha, e => by
    unfold clOf at e
    split at e
    · rename_i hk
      refine clOf_sub r _ (fun y hy => h y (List.mem_cons_of_mem _ hy)) (fun c' e' => ?_) e
      rw [List.lookup_cons] at e'
      split at e'
      · rename_i hx
        have hx' : x = n := by simpa using hx
        subst hx'
        obtain ⟨c2, q⟩ := h (x, k) List.mem_cons_self hk
        rw [q] at e' ⊢
        simpa using e'
      · exact ha c' e'
    · exact clOf_sub r _ (fun y hy => h y (List.mem_cons_of_mem _ hy)) ha e
theorem clOf_acc {env : Env} {x : Str} : ∀ (names : List (Str × NameKind)) (acc : List (Str × Addr)), (∃ c, acc.lookup x = some c) → ∃ c, (clOf env names acc).lookup x = some c
  | [], acc, h => h
  | (n, k) :: r, acc, h => by
    unfold clOf
    split
    · refine clOf_acc r _ ?_
      rw [List.lookup_cons]
      split
      · exact ⟨_, rfl⟩
      · exact h
    · exact clOf_acc r _ h
theorem clOf_has {env : Env} {x : Str} : ∀ (names : List (Str × NameKind)) (acc : List (Str × Addr)), (x, NameKind.free) ∈ names → ∃ c, (clOf env names acc).lookup x = some c
  | [], _, h => nomatch h
  | (n, k) :: r, acc, h => by
    unfold clOf
    rcases List.mem_cons.mp h with z | z
    · cases z
      rw [if_pos rfl]
      refine clOf_acc r _ ?_
      rw [List.lookup_cons]
      simp
    · split
      · exact clOf_has r _ z
      · exact clOf_has r _ z
theorem relabel_inv {env : Env} : ∀ {names : List (Str × NameKind)} {x : Str} {k : NameKind}, (names.map fun (n, k) => if (k == NameKind.free && env.scope.kind == .function && env.kindOf n == some .cell) then (n, NameKind.cell) else (n, k)).lookup x = some k →
    ∃ k', names.lookup x = some k' ∧ (k = k' ∨ (k' = .free ∧ k = .cell))
  | [], _, _, h => by simp at h
  | (n, k0) :: r, x, k, h => by
    have h' : List.lookup x ((if (k0 == NameKind.free && env.scope.kind == .function && env.kindOf n == some .cell) = true then (n, NameKind.cell) else (n, k0)) :: (r.map fun (n, k) => if (k == NameKind.free && env.scope.kind == .function && env.kindOf n == some .cell) then (n, NameKind.cell) else (n, k))) = some k := h
    rw [List.lookup_cons]
    by_cases hc : (k0 == NameKind.free && env.scope.kind == .function && env.kindOf n == some .cell) = true
    · rw [if_pos hc, List.lookup_cons] at h'
      split at h'
      · rename_i hx
        cases h'
        refine ⟨k0, rfl, .inr ⟨?_, rfl⟩⟩
        simp only [Bool.and_eq_true, beq_iff_eq] at hc
        exact hc.1.1
      · rename_i hx
        exact relabel_inv h'
    · rw [if_neg hc, List.lookup_cons] at h'
      split at h'
      · rename_i hx
        cases h'
        exact ⟨k0, rfl, .inl rfl⟩
      · rename_i hx
        exact relabel_inv h'
theorem relabel_free {env : Env} : ∀ {names : List (Str × NameKind)} {x : Str}, names.lookup x = some .free →
    let l := (names.map fun (n, k) => if (k == NameKind.free && env.scope.kind == .function && env.kindOf n == some .cell) then (n, NameKind.cell) else (n, k)); l.lookup x = some .cell ∨ l.lookup x = some .free
  | [], _, h => by simp at h
  | (n, k0) :: r, x, h => by
    show List.lookup x ((if (k0 == NameKind.free && env.scope.kind == .function && env.kindOf n == some .cell) = true then (n, NameKind.cell) else (n, k0)) :: _) = _ ∨ List.lookup x ((if (k0 == NameKind.free && env.scope.kind == .function && env.kindOf n == some .cell) = true then (n, NameKind.cell) else (n, k0)) :: _) = _
    rw [List.lookup_cons] at h
    cases hx : x == n with
    | true =>
      rw [hx] at h
      cases h
      split
      · left; rw [List.lookup_cons, hx]
      · right; rw [List.lookup_cons, hx]
    | false =>
      rw [hx] at h
      have ih := relabel_free (env := env) h
      split
      · rw [List.lookup_cons, hx]; exact ih
      · rw [List.lookup_cons, hx]; exact ih
def cxC (X : Cx) (N' : List Str) (scope : Scope) (C : Addr) (fp : List Addr) (s : Shared) (H : Hp) : Cx where
  prog := X.prog
  w := X.w
  K := X.K
  mg := X.mg
  base := X.base
  A := X.A
  N := N'
  s₀ := s
  H₀ := H
  env := compEnvC scope (clOf X.env scope.names []) C X.env
  outer := X.stack
  stack := X.stack
  ex := fp
  fn := fun _ => false
  calm := X.calm
  pn := []
  xe := fun _ _ => False
structure CmpOk (X : Cx) (N' : List Str) (cap : List Nat) (scope : Scope) : Prop where
  kind : scope.kind = .function
  nc : ∀ y ∈ scope.names, y.2 ≠ .cell
  nm : ∀ y ∈ scope.names, y.2 = .local → scope.names.lookup y.1 = some .local
  fr : ∀ y ∈ scope.names, y.2 = .free → X.env.kindOf y.1 = some .cell ∨ X.env.kindOf y.1 = some .free
  capt : ∀ (i j : Nat), cap[i]? = some j → ∃ x, N'[i]? = some x ∧ X.N[j]? = some x ∧ scope.names.lookup x = some .free
  len : cap.length ≤ N'.length
def sigC (cap : List Nat) (n : Nat) (σ : St) : St := (cap.map fun j => (σ[j]?).getD none) ++ List.replicate (n - cap.length) none
section
variable {X : Cx} {pins : List (Addr × Obj)} {σ : St} {H : Hp} {s : Shared} {N' : List Str} {cap : List Nat} {scope : Scope} {fp : List Addr}
theorem CmpOk.hasc (o : CmpOk X N' cap scope) (ok : X.Ok) : ∀ y ∈ scope.names, y.2 = .free → ∃ c, X.env.cells.lookup y.1 = some c := fun y hy e => ok.has y.1 (o.fr y hy e)
theorem CmpOk.sub (o : CmpOk X N' cap scope) (ok : X.Ok) {x : Str} {c : Addr} (e : (clOf X.env scope.names []).lookup x = some c) : X.env.cells.lookup x = some c := clOf_sub scope.names [] (o.hasc ok) (fun _ z => by simp at z) e
theorem inv_comp (o : CmpOk X N' cap scope) (I : Inv X pins σ H s) (hfp : ∀ b ∈ fp, FpOk X pins H b) (hlt : ∀ b ∈ fp, b < s.heap.objs.size) {h' : Heap} {t' : Nat} (ns : h'.Ns s.heap.objs.size (fun _ => none)) (kp : ∀ b u, s.heap.get? b = some u → h'.get? b = some u) :
    Inv (cxC X N' scope s.heap.objs.size fp s H) [] (sigC cap N'.length σ) H { s with heap := h', toks := t' } := by
  have hf : H s.heap.objs.size = none := I.hok.fresh (Nat.le_refl _)
  have nofp : ∀ b ∈ fp, b ∉ frs X.stack := fun b hb z => by
    obtain ⟨f0, f1, f2, f3, f4, f5⟩ := hfp b hb
    rcases List.mem_cons.mp (I.stkSub b z) with q | q
    · exact f1 q
    · exact f2 q
  have ok' : (cxC X N' scope s.heap.objs.size fp s H).Ok := by
    refine ⟨I.ok.mod, o.kind, I.ok.glob, I.ok.blt, Nat.le_refl _, fun x y c e1 e2 => I.ok.inj x y c (o.sub I.ok e1) (o.sub I.ok e2), fun x hx => ?_, fun x c z => (by cases z), I.ok.hd, I.ok.frames, .inl rfl, fun b hb => ⟨Nat.ne_of_lt (hlt b hb), fun x c e => (hfp b hb).2.2.2.2.1 x c (o.sub I.ok e)⟩,
      fun b ob e => I.bs b ob e, Nat.le_trans I.ok.bsz I.sz, fun b ob e hb => ?_, nofp, I.stack, I.stkFree⟩
    · have key : scope.names.lookup x = some .free := by
        rcases hx with hx | hx
        · obtain ⟨k', e1, e2⟩ := relabel_inv (env := X.env) (names := scope.names) (x := x) (k := .cell) hx
          rcases e2 with e2 | e2
          · subst e2; exact absurd rfl (o.nc _ (PySem.mem_of_lookup e1))
          · rw [e2.1] at e1; exact e1
        · obtain ⟨k', e1, e2⟩ := relabel_inv (env := X.env) (names := scope.names) (x := x) (k := .free) hx
          rcases e2 with e2 | e2
          · subst e2; exact e1
          · exact absurd e2.2 (by decide)
      exact clOf_has scope.names [] (PySem.mem_of_lookup key)
    · rcases (hfp b hb).2.2.2.1 with z | z
      · exact I.ok.noex b ob e z
      · exact absurd (Nat.lt_of_lt_of_le (Nat.lt_of_lt_of_le (Heap.lt_size e) I.ok.bsz) z) (Nat.lt_irrefl _)
  refine ⟨ok', rfl, I.bare, Un.kept kp, ⟨fun _ => none, ns, fun i x v hN hs hv => ?_⟩, fun x c e => ?_, hf, fun x c e => I.freeC x c (o.sub I.ok e), fun p hp => ?_, I.hok.kept kp, ?_⟩
  · have hN : N'[i]? = some x := hN
    by_cases hi : i < cap.length
    · unfold sigC at hs
      rw [List.getElem?_append_left (by simpa using hi), List.getElem?_map] at hs
      obtain ⟨j, hj⟩ : ∃ j, cap[i]? = some j := ⟨cap[i], by simp [hi]⟩
      rw [hj] at hs
      have hs' : σ[j]? = some (some v) := by
        have hs'' : (σ[j]?).getD none = some v := Option.some.inj hs
        cases e : σ[j]? with
        | none => rw [e] at hs''; cases hs''
        | some y => rw [e] at hs''; have : y = some v := hs''; rw [this]
      obtain ⟨x', e1, e2, e3⟩ := o.capt i j hj
      rw [hN] at e1; cases e1
      have hk := o.fr (x, .free) (PySem.mem_of_lookup e3) rfl
      obtain ⟨m, hn, hl⟩ := I.loc
      have hvis : Vis X.env.scope x := hk.elim (fun z => .inr (.inl z)) fun z => .inr (.inr z)
      obtain ⟨u, r, lk⟩ := hl j x v e2 hs' hvis
      refine ⟨u, r, .inr ⟨relabel_free (env := X.env) e3, ?_⟩⟩
      rcases lk with ⟨z, _⟩ | ⟨_, c, hc, hcell⟩
      · have z' : X.env.kindOf x = some .local := z
        rw [z'] at hk
        rcases hk with hk | hk <;> cases hk
      · obtain ⟨c', hc'⟩ := clOf_has (env := X.env) scope.names [] (PySem.mem_of_lookup e3)
        have hcc := o.sub I.ok hc'
        rw [hc] at hcc; cases hcc
        obtain ⟨ob, q1, q2⟩ := hcell
        exact ⟨c, hc', ob, kp _ _ q1, q2⟩
    · unfold sigC at hs
      rw [List.getElem?_append_right (by simpa using Nat.le_of_not_lt hi), List.getElem?_replicate] at hs
      split at hs <;> cases hs
  · obtain ⟨v, ob, q1, q2⟩ := I.cell x c (o.sub I.ok e)
    exact ⟨v, ob, kp _ _ q1, q2⟩
  · exact absurd (show p ∈ ([] : List (Addr × Obj)) from hp) (by simp)
  · unfold sigC
    show _ = N'.length
    rw [List.length_append, List.length_map, List.length_replicate]
    have := o.len
    omega
theorem inv_comp_end {H2 : Hp} {σ2 : St} {s2 : Shared} {h' : Heap} (I : Inv X pins σ H s) (hfp : ∀ b ∈ fp, FpOk X pins H b) (J : Inv (cxC X N' scope s.heap.objs.size fp s H) [] σ2 H2 s2) (sb : Heap.SameBut s.heap.objs.size s2.heap h') : Inv X pins σ H2 { s2 with heap := h' } := by
  have hb : Un (frs X.stack) fp H H2 s.heap s2.heap := J.base
  have ne : ∀ b o, s.heap.get? b = some o → b ≠ s.heap.objs.size := fun b o e => Nat.ne_of_lt (Heap.lt_size e)
  have fr : H2 s.heap.objs.size = none := J.free
  refine I.call' (s' := { s2 with heap := h' }) (ch := fp) J.os ?_ ?_ J.bare fun b hb => ⟨(hfp b hb).2.2.2.1, (hfp b hb).2.1, (hfp b hb).2.2.2.2.1, (hfp b hb).2.2.2.2.2⟩
  · refine ⟨fun b o e n h1 h2 => ?_, fun b o e n h1 h2 => ?_, fun b o e n h2 => hb.free b o e n h2, fun b o e h2 => ?_, hb.tups, hb.frzs, hb.tbls⟩
    · exact sb.extBut b o (ne b o e) (hb.keep b o e n h1 h2)
    · obtain ⟨sl, q⟩ := hb.slot b o e n h1 h2
      exact ⟨sl, sb.extBut b _ (ne b o e) q⟩
    · obtain ⟨o', q⟩ := hb.there b o e h2
      exact ⟨o', sb.extBut b _ (ne b o e) q⟩
  · intro b u e
    have nb : ∀ c w, H2 c = some w → c ≠ s.heap.objs.size := fun c w q z => by rw [z, fr] at q; cases q
    refine (J.hok b u e).stay (fun c v hc q => sb.extBut c v ?_ q) (fun _ q => q) fun _ _ q => q
    rcases hc with z | z
    · rw [z]; exact nb b u e
    · exact nb c _ z
def tComp1 (tc : Option TT) (te : TE) (K1 : V → Hp → Prop) (K0 : Hp → Prop) : St → Hp → Prop := fun σ H => match tc with
  | none => te σ H K1
  | some c => c σ H fun b H1 => if b = true then te σ H1 K1 else K0 H1
def tComp (cap : List Nat) (n : Nat) (wi : TI) (g : TG) (tc : Option TT) (te : TE) : TE := fun σ H Q => wi σ H fun J H1 => ∀ p, H1 p = none → ∃ W : Nat → Nat → List V → St → Hp → Prop, (∃ m, W 0 m [] (sigC cap n σ) (upd H1 p (.lst []))) ∧ ∀ i m ys σ2 H2, W i m ys σ2 H2 → H2 p = some (.lst ys) ∧ ys.length < sizeLine ∧
  ((J.stop i H2 ∧ Q (.ref p) H2) ∨ (J.go i H2 ∧ ∀ x H3, J.yld i H2 x H3 → g x σ2 H3 fun σ4 H4 => tComp1 tc te (fun y H5 => H5 p = some (.lst ys) ∧ ∃ m', m' < m ∧ W (i + 1) m' (ys ++ [y]) σ4 (upd H5 p (.lst (ys ++ [y])))) (fun H5 => ∃ m', m' < m ∧ W (i + 1) m' ys σ4 H5) σ4 H4))
theorem compLoop_go {prog : Program} {w : World} {A : Around} {Z : Result → Shared → Prop} {t0 : Shared} {elt tgt src : Expr} {tests : List Expr} {scope : Scope} {pos : Pos} {it out : Value} {env : Env} (W : Nat → Shared → Prop)
    (each : ∀ k t, W k t → wpAny (model prog w) A (pyNext it) (fun got t1 => match got with
      | none => Z (.ok .next) t1
      | some y => wpAny (model prog w) A (letOwnedTupleGo tgt it y) (fun _ t2 => wpAny (model prog w) A (assign tgt env y) (fun _ t3 =>
          wpAny (model prog w) A (forIn tests true fun c b => if b = true then do let ok ← isTrue c env (eval c env); pure (ForInStep.yield ok) else pure (ForInStep.yield b)) (fun good t4 =>
            if good = true then wpAny (model prog w) A (eval elt env) (fun x t5 =>
              wpAny (model prog w) A (call (.builtin "list.append") [out, x]) (fun _ t6 => ∃ j, j < k ∧ W j t6) (fun _ _ => False) t5) (fun _ _ => False) t4
            else ∃ j, j < k ∧ W j t4) (fun _ _ => False) t3) (fun _ _ => False) t2) (fun _ _ => False) t1) (fun _ _ => False) t)
    (k : Nat) (h0 : W k t0) : codeAny (model prog w) A (.compLoop (.ListComp elt [⟨tgt, src, tests, 0⟩] scope pos) 0 it out env) Z t0 := by
  refine codeAny_loop rfl W (fun k t hW => ?_) k h0
  show wpAny _ A ((compTurn (.ListComp elt [⟨tgt, src, tests, 0⟩] scope pos) 0 it out env).onRaise (fun x => do noteFrame x env; theTreesLotGoes x)) _ _ t
  refine wpAny_noted ?_
  rw [compTurn_list]
  refine wpAny_bind (wpAny_standAt (wpAny_bind (wpAny_mono (each k t hW) (fun got t1 g1 => ?_) fun _ _ no => no.elim)))
  cases got with
  | none => exact wpAny_pure g1
  | some y =>
    refine wpAny_bind (wpAny_mono g1 (fun _ t2 g2 => wpAny_bind (wpAny_mono g2 (fun _ t3 g3 => wpAny_bind (wpAny_mono g3 (fun good t4 g4 => ?_) fun _ _ no => no.elim)) fun _ _ no => no.elim)) fun _ _ no => no.elim)
    cases good with
    | false => exact wpAny_pure ⟨rfl, g4⟩
    | true =>
      exact wpAny_bind (wpAny_bind (wpAny_mono g4 (fun x t5 g5 => wpAny_bind (wpAny_mono g5 (fun _ t6 g6 => wpAny_pure (wpAny_pure ⟨rfl, g6⟩)) fun _ _ no => no.elim)) fun _ _ no => no.elim))
theorem comp_core {elt tg iter : Expr} {ifs : List Expr} {pos : Pos} {g : TG} {tc : Option TT} {te : TE} {J : It} {it : Addr} {tn : Nat → Heap → Prop} {Q : VK} {RR : Value → Addr → Result → Shared → Prop} (hc : X.calm = true) (o : CmpOk X N' cap scope)
    (hg : ∀ C fp s H, PG (cxC X N' scope C fp s H) tg g) (ht : match (generalizing := false) tc with | none => ifs = [] | some c => ∃ e, ifs = [e] ∧ ∀ C fp s H, PT (cxC X N' scope C fp s H) e c) (he : ∀ C fp s H, PE (cxC X N' scope C fp s H) elt te)
    (I : Inv X pins σ H s) (T : Turn X.prog X.w X.K tg J fp it tn) (st : tn 0 s.heap) (hfp : ∀ b ∈ fp, FpOk X pins H b)
    (hw : ∀ p, H p = none → ∃ W : Nat → Nat → List V → St → Hp → Prop, (∃ m, W 0 m [] (sigC cap N'.length σ) (upd H p (.lst []))) ∧ ∀ i m ys σ2 H2, W i m ys σ2 H2 → H2 p = some (.lst ys) ∧ ys.length < sizeLine ∧
      ((J.stop i H2 ∧ Q (.ref p) H2) ∨ (J.go i H2 ∧ ∀ x H3, J.yld i H2 x H3 → g x σ2 H3 fun σ4 H4 => tComp1 tc te (fun y H5 => H5 p = some (.lst ys) ∧ ∃ m', m' < m ∧ W (i + 1) m' (ys ++ [y]) σ4 (upd H5 p (.lst (ys ++ [y])))) (fun H5 => ∃ m', m' < m ∧ W (i + 1) m' ys σ4 H5) σ4 H4)))
    (hRR : ∀ (p : Addr) (s3 s' : Shared) (H3 H2 : Hp) (σ2 : St), Inv X pins σ H3 s3 → (∀ b ∈ fp, FpOk X pins H3 b) → Inv (cxC X N' scope s3.heap.objs.size fp s3 H3) [] σ2 H2 s' → Q (.ref p) H2 → RR (.ref p) s3.heap.objs.size (.ok .next) s') :
    wpAny (model X.prog X.w) X.A (newList []) (fun acc s₃ => wpAny (model X.prog X.w) X.A (newFunctionEnv scope X.env.globals (clOf X.env scope.names []) [] X.env.qual none .none (some X.env)) (fun cenv s₄ =>
      codeAny (model X.prog X.w) X.A (.compStart (.ListComp elt [⟨tg, iter, ifs, 0⟩] scope pos) 0 (.ref it) acc { cenv with scope := relabel scope X.env }) (RR acc cenv.locals) s₄) X.xe s₃) X.xe s := by
  refine wpAny_newObj_type ?_
  obtain ⟨W, ⟨m0, w0⟩, turn⟩ := hw s.heap.objs.size (I.hok.fresh (Nat.le_refl _))
  have nfp : ∀ b ∈ fp, b < s.heap.objs.size := fun b hb => by
    obtain ⟨ob, e, _⟩ := T.obj 0 _ st b hb
    exact Heap.lt_size e
  have I3 := I.lnew (its := []) (ys := []) (t' := s.toks) .nil (Nat.zero_le _)
  generalize hs3 : ({ s with heap := s.heap.push { cls := .type "list", data := .seq ([] : List Value).toArray }, toks := s.toks } : Shared) = s3 at I3
  have hs3' : ({ s with heap := s.heap.push { cls := .type "list", dict := none, data := .seq ([] : List Value).toArray } } : Shared) = s3 := hs3
  have hf3 : ∀ b ∈ fp, FpOk X pins (upd H s.heap.objs.size (.lst [])) b := fun b hb => ⟨by rw [upd_ne (Nat.ne_of_lt (nfp b hb))]; exact (hfp b hb).1, (hfp b hb).2⟩
  have st3 : tn 0 s3.heap := T.keep 0 _ _ st fun b _ ob e => by rw [← hs3]; exact Heap.get?_push_of_some _ e
  have nfp3 : ∀ b ∈ fp, b < s3.heap.objs.size := fun b hb => by
    obtain ⟨ob, e, _⟩ := T.obj 0 _ st3 b hb
    exact Heap.lt_size e
  refine wpAny_newFunctionEnv o.nc (by intro y hy; simp at hy) (fun h₁ hns₁ hsb₁ => ?_) o.kind
  have old : ∀ b ob, s3.heap.get? b = some ob → h₁.get? b = some ob := fun b ob e => hsb₁.extBut b ob (Nat.ne_of_lt (Heap.lt_size e)) (Heap.get?_push_of_some _ e)
  have I4 := inv_comp (t' := s3.toks + ([] : List (Str × Value)).length) o I3 hf3 nfp3 (by simpa using hns₁) old
  have st4 : tn 0 h₁ := T.keep 0 _ _ st3 fun b _ ob e => old b ob e
  have fpC : ∀ H', (∀ b ∈ fp, H' b = none) → ∀ b ∈ fp, FpOk (cxC X N' scope s3.heap.objs.size fp s3 (upd H s.heap.objs.size (.lst []))) [] H' b := fun H' hn b hb => by
    refine ⟨hn b hb, Nat.ne_of_lt (nfp3 b hb), I4.ok.exfs b hb, .inl hb, (I4.ok.exf b hb).2, fun p hp => absurd (show p ∈ ([] : List (Addr × Obj)) from hp) (by simp)⟩
  have loop : codeAny (model X.prog X.w) X.A (.compLoop (.ListComp elt [⟨tg, iter, ifs, 0⟩] scope pos) 0 (.ref it) (.ref s.heap.objs.size) (compEnvC scope (clOf X.env scope.names []) s3.heap.objs.size X.env)) (RR (.ref s.heap.objs.size) s3.heap.objs.size) { s3 with heap := h₁, toks := s3.toks + ([] : List (Str × Value)).length } := by
    refine compLoop_go (fun n s' => ∃ i ys σ' H', Inv (cxC X N' scope s3.heap.objs.size fp s3 (upd H s.heap.objs.size (.lst []))) [] σ' H' s' ∧ tn i s'.heap ∧ (∀ b ∈ fp, H' b = none) ∧ W i n ys σ' H') ?_ m0 ⟨0, [], _, _, I4, st4, fun b hb => (hf3 b hb).1, w0⟩
    rintro n s5 ⟨i, ys, σ5, H5, I5, st5, fr5, w5⟩
    obtain ⟨hp5, hz5, br⟩ := turn i n ys σ5 H5 w5
    rcases br with ⟨stop, q⟩ | ⟨go, step⟩
    · refine thn (T.done (cxC X N' scope s3.heap.objs.size fp s3 (upd H s.heap.objs.size (.lst []))) rfl rfl rfl hc i [] s5 _ H5 (fun _ _ => False) I5 (fpC H5 fr5) st5 stop) fun r s6 ⟨hr, I6⟩ => ?_
      subst hr
      exact hRR _ s3 s6 _ H5 _ I3 hf3 I6 q
    · refine thn (T.item (cxC X N' scope s3.heap.objs.size fp s3 (upd H s.heap.objs.size (.lst []))) rfl rfl rfl hc i [] s5 _ H5 (fun _ _ => False) I5 (fpC H5 fr5) st5 go) fun r s6 ⟨u, hr, h6⟩ => ?_
      subst hr
      refine thn h6 fun _ s7 ⟨x, H7, I7, r7, y7, st7, fr7⟩ => ?_
      have I7' := I7.pinned (fpC H7 fr7) (T.obj _ _ st7)
      refine thn (hg _ _ _ _ _ s7 _ H7 x u _ I7' r7 (step x H7 y7)) fun _ s8 ⟨σ8, H8, I8, q8⟩ => ?_
      have again : ∀ {H9 : Hp} {σ9 : St} {s9 : Shared} {ys' : List V}, Inv (cxC X N' scope s3.heap.objs.size fp s3 (upd H s.heap.objs.size (.lst []))) ([] ++ pinsAt fp s7.heap) σ9 H9 s9 → (∃ m', m' < n ∧ W (i + 1) m' ys' σ9 H9) →
          ∃ m, m < n ∧ ∃ i ys σ' H', Inv (cxC X N' scope s3.heap.objs.size fp s3 (upd H s.heap.objs.size (.lst []))) [] σ' H' s9 ∧ tn i s9.heap ∧ (∀ b ∈ fp, H' b = none) ∧ W i m ys σ' H' := fun {H9 σ9 s9 ys'} I9 z => by
        obtain ⟨m', hm, w9⟩ := z
        refine ⟨m', hm, i + 1, ys', σ9, H9, I9.unpinned, T.keep _ _ _ st7 fun b hb ob e => (I9.pin (b, ob) (List.mem_append_right _ (List.mem_append_right _ (mem_pinsAt hb e)))).1, fun b hb => ?_, w9⟩
        obtain ⟨ob, e, d⟩ := T.obj _ _ st7 b hb
        exact (I9.pin (b, ob) (List.mem_append_right _ (List.mem_append_right _ (mem_pinsAt hb e)))).2.1
      have app : ∀ {s9 : Shared} {H9 : Hp} {y : V} {u9 : Value}, Inv (cxC X N' scope s3.heap.objs.size fp s3 (upd H s.heap.objs.size (.lst []))) ([] ++ pinsAt fp s7.heap) σ8 H9 s9 → RelV y u9 → (H9 s.heap.objs.size = some (.lst ys) ∧ ∃ m', m' < n ∧ W (i + 1) m' (ys ++ [y]) σ8 (upd H9 s.heap.objs.size (.lst (ys ++ [y])))) →
          wpAny (model X.prog X.w) X.A (call (.builtin "list.append") [.ref s.heap.objs.size, u9]) (fun _ s₅ => ∃ m, m < n ∧ ∃ i ys σ' H', Inv (cxC X N' scope s3.heap.objs.size fp s3 (upd H s.heap.objs.size (.lst []))) [] σ' H' s₅ ∧ tn i s₅.heap ∧ (∀ b ∈ fp, H' b = none) ∧ W i m ys σ' H') (fun _ _ => False) s9 := fun {s9 H9 y u9} I9 r9 z9 => by
        refine thn (mt_append (X := cxC X N' scope s3.heap.objs.size fp s3 (upd H s.heap.objs.size (.lst []))) _ s9 σ8 H9 (.ref s.heap.objs.size) [y] (.ref s.heap.objs.size) [u9] (fun _ H' => ∃ m', m' < n ∧ W (i + 1) m' (ys ++ [y]) σ8 H') I9 rfl (.cons r9 .nil) ⟨_, ys, y, rfl, rfl, z9.1, hz5, z9.2⟩) fun _ s10 ⟨_, H10, I10, _, z10⟩ => ?_
        exact again I10 z10
      cases tc with
      | none =>
        have hi : ifs = [] := ht
        subst hi
        refine wpAny_tests_nil ?_
        rw [if_pos rfl]
        exact thn (he _ _ _ _ _ s8 σ8 H8 _ I8 q8) fun u9 s9 ⟨y, H9, I9, r9, z9⟩ => app I9 r9 z9
      | some c =>
        obtain ⟨e, he1, hce⟩ := ht
        subst he1
        refine wpAny_tests_one (thn (hce _ _ _ _ _ s8 σ8 H8 _ I8 q8) fun b s9 ⟨H9, I9, q9⟩ => ?_)
        cases b with
        | false =>
          rw [if_neg Bool.false_ne_true] at q9 ⊢
          exact again I9 q9
        | true =>
          rw [if_pos rfl] at q9 ⊢
          exact thn (he _ _ _ _ _ s9 σ8 H9 _ I9 q9) fun u10 s10 ⟨y, H10, I10, r10, z10⟩ => app I10 r10 z10
  exact codeAny_compStart_list loop (T.self X.A 0 _ _ _ st4 loop)
end
section
variable {X : Cx} {N' : List Str} {cap : List Nat} {scope : Scope} {elt tg iter : Expr} {ifs : List Expr} {pos : Pos} {wi : TI} {g : TG} {tc : Option TT} {te : TE}
theorem pe_lcomp (hc : X.calm = true) (o : CmpOk X N' cap scope) (hi : PI X tg iter wi)
    (hg : ∀ C fp s H, PG (cxC X N' scope C fp s H) tg g) (ht : match (generalizing := false) tc with | none => ifs = [] | some c => ∃ e, ifs = [e] ∧ ∀ C fp s H, PT (cxC X N' scope C fp s H) e c) (he : ∀ C fp s H, PE (cxC X N' scope C fp s H) elt te)
    (hs : ∀ x, foldedSetIterable iter X.env x = pure x := by intro _; rfl) : PE X (.ListComp elt [⟨tg, iter, ifs, 0⟩] scope pos) (tComp cap N'.length wi g tc te) := by
  intro pins s σ H Q I h
  rw [eval_ListComp]
  refine wpAny_comprehension_free (use := none) rfl hs (closureFor_eq (o.hasc I.ok)) o.kind o.nm (thn (hi pins s σ H _ I h) fun xv s1 h1 => thn h1 fun itv s2 h2 => ?_)
  obtain ⟨it, fp, tn, J, H2, rfl, I2, T, st2, f2, hw⟩ := h2
  refine comp_core (Q := Q) hc o hg ht he I2 T st2 f2 hw ?_
  intro p s3 s' H3 H4 σ4 I3 f3 J4 q
  obtain ⟨m, hn, _⟩ := J4.loc
  exact ⟨m, hn, fun h' sb => ⟨.ref p, H4, inv_comp_end I3 f3 J4 sb, rfl, q⟩⟩
theorem ps_lcomp {i : Nat} {y : Str} {py spos : Pos} (hc : X.calm = true) (o : CmpOk X N' cap scope) (hi : PI X tg iter wi)
    (hg : ∀ C fp s H, PG (cxC X N' scope C fp s H) tg g) (ht : match (generalizing := false) tc with | none => ifs = [] | some c => ∃ e, ifs = [e] ∧ ∀ C fp s H, PT (cxC X N' scope C fp s H) e c) (he : ∀ C fp s H, PE (cxC X N' scope C fp s H) elt te)
    (hN : X.N.Nodup) (hy : X.N[i]? = some y) (hx : Loc X.env.scope y) (hf : X.fn y = true ∨ X.env.scope.names.lookup y = some .local)
    (hsw : swapsWith (.ListComp elt [⟨tg, iter, ifs, 0⟩] scope pos) (some (.Name y py)) spos.line X.env = pure true)
    (hs : ∀ x, foldedSetIterable iter X.env x = pure x := by intro _; rfl) : PS X (.Assign [.Name y py] (.ListComp elt [⟨tg, iter, ifs, 0⟩] scope pos) spos) (tAsg (tComp cap N'.length wi g tc te) (gName i)) := by
  intro pins s σ H D I h
  rw [exec_Assign_Name_used _ _ _ _ hsw]; refine wpAny_bind (wpAny_standAt (wpAny_bind ?_))
  show wpAny _ X.A (do let _ ← comprehension (.ListComp elt [⟨tg, iter, ifs, 0⟩] scope pos) scope X.env _ (newList []) false (eval iter X.env) (some (assign (.Name y py) X.env))) _ _ s
  refine wpAny_bind (wpAny_mono (wpAny_comprehension_free (use := some (assign (.Name y py) X.env)) (Q := fun _ s' => SP X pins D .next s') rfl hs (closureFor_eq (o.hasc I.ok)) o.kind o.nm
    (thn (hi pins s σ H _ I h) fun xv s1 h1 => thn h1 fun itv s2 h2 => ?_)) (fun _ s' hq => wpAny_pure (wpAny_pure hq)) fun _ _ e => e)
  obtain ⟨it, fp, tn, J, H2, rfl, I2, T, st2, f2, hw⟩ := h2
  refine comp_core (Q := fun v H1 => gName i v σ H1 D.nx) hc o hg ht he I2 T st2 f2 hw ?_
  intro p s3 s' H3 H4 σ4 I3 f3 J4 q
  obtain ⟨m, hn, _⟩ := J4.loc
  have I5 : Inv X pins σ H4 s' := inv_comp_end I3 f3 J4 (Heap.SameBut.refl _ _)
  have fc : FpOk X pins H4 s3.heap.objs.size := I3.fpOk (Nat.le_refl _) J4.free
  show wpAny _ X.A (assign (.Name y py) X.env (.ref p)) _ _ _
  refine wpAny_assign_Name (store_ok2 (v := .ref p) I5 hN hy hx rfl (fun s6 I6 ⟨a, sb, ha⟩ => ?_) hf)
  have hne : s3.heap.objs.size ≠ a := by
    rcases ha with ha | ha
    · rw [ha]; exact fc.2.1
    · exact fun z => fc.2.2.2.2.1 y a ha z.symm
  refine ⟨m, hn.sameBut sb hne, fun h' sb' => ⟨_, H4, ?_, q⟩⟩
  exact I6.turned (t' := s6.toks) (it := s3.heap.objs.size) (fun b ob hb e => sb'.extBut b ob hb e) fc.1 fc.2.1 fc.2.2.2.1 fc.2.2.2.2.1 fc.2.2.2.2.2
end
def addD : D → D → Option D
  | .int i, .int j => some (.int (i + j))
  | .str s, .str t => if s.length + t.length ≤ sizeLine then some (.str (s ++ t)) else none
  | .lst l, .lst m => if l.length + m.length ≤ sizeLine then some (.lst (l ++ m)) else none
  | .tup l, .tup m => if l.length + m.length ≤ sizeLine ∧ l.isEmpty = false ∧ m.isEmpty = false then some (.tup (l ++ m)) else none
  | _, _ => none
def mulD : D → D → Option D
  | .int i, .int j => if (-(2 ^ 64) < i ∧ i < 2 ^ 64) ∨ (-(2 ^ 64) < j ∧ j < 2 ^ 64) then some (.int (i * j)) else none
  | _, _ => none
def fdivD : D → D → Option D
  | .int i, .int j => if 0 < j ∧ j < 1073741824 then some (.int (i / j)) else none
  | _, _ => none
def modD : D → D → Option D
  | .int i, .int j => if 0 < j then some (.int (i % j)) else none
  | _, _ => none
def powD : D → D → Option D
  | .int i, .int j => if 0 ≤ j ∧ j ≤ 1000000 ∧ i.natAbs < 2 ^ 64 then some (.int (i ^ j.toNat)) else none
  | _, _ => none
def gtD : D → D → Option D
  | .int i, .int j => some (.bl (decide (j < i)))
  | _, _ => none
def eqS : D → D → Option Bool
  | .int i, .int j => some (decide (i = j))
  | .str s, .str t => some (decide (s = t))
  | .bl a, .bl b => some (decide (a = b))
  | .non, .non => some true
  | .non, .int _ => some false
  | .int _, .non => some false
  | .non, .str _ => some false
  | .str _, .non => some false
  | .int _, .str _ => some false
  | .str _, .int _ => some false
  | _, _ => none
def neD (x y : D) : Option D := (eqS x y).map fun b => .bl !b
def isND (x y : D) : Option D := match y with
  | .non => match x with
    | .non => some (.bl true)
    | _ => some (.bl false)
  | _ => none
def notND (x y : D) : Option D := match y with
  | .non => match x with
    | .non => some (.bl false)
    | _ => some (.bl true)
  | _ => none
section
variable {X : Cx}
def rCatR (K : Fg) : R2 := fun x y H Q => ∃ l b xs zs, x = .ref l ∧ y = .ref b ∧ SqL K H l xs ∧ SqL K H b zs ∧ xs.length + zs.length ≤ sizeLine ∧ ∀ p, H p = none → Q (.ref p) (upd H p (.lst (xs ++ zs)))
theorem op_catR : OpR X (binaryOp .Add) (rCatR X.K) := by
  intro pins s σ H x y v u Q I rx ry h
  obtain ⟨l, b, xs, zs, rfl, rfl, hH, hB, hz, q⟩ := h
  cases rx
  cases ry
  obtain ⟨its, r, ⟨⟨cls, dd, data, sl⟩, n, e, hc, hd0, hd⟩, z⟩ := I.list hH
  obtain ⟨its2, r2, ⟨⟨cls2, dd2, data2, sl2⟩, n2, e2, hc2, hd02, hd2⟩, z2⟩ := I.list hB
  have hl := r.length
  have hl2 := r2.length
  cases (show cls = _ from hc); cases (show dd = _ from hd0); cases (show data = _ from hd)
  cases (show cls2 = _ from hc2); cases (show dd2 = _ from hd02); cases (show data2 = _ from hd2)
  refine concat_meets ⟨_, e, rfl⟩ ⟨_, e2, rfl⟩ noFill_list_add seq_list_add PySem.F.slot_list_add PySem.F.entry_list_add (PySem.F.args_list_add_2 _ _) (list_addW l b its.toArray its2.toArray n n2 none none sl sl2 (by rw [List.size_toArray, List.size_toArray]; omega)) ⟨e, e2, ?_⟩
  have ea : its.toArray ++ its2.toArray = (its ++ its2).toArray := by simp
  rw [ea]
  exact ⟨.ref _, _, I.lnew (t' := s.toks) (r.append r2) (by rw [List.length_append]; omega), rfl, q _ I.fresh⟩
def rPlus (K : Fg) : R2 := fun x y H Q => rI0 (fun i j => .int (i + j)) x y H Q ∨ (∃ i j, x = .str i ∧ y = .str j ∧ i.length + j.length ≤ sizeLine ∧ Q (.str (i ++ j)) H) ∨ rCatR K x y H Q ∨ rCatT K x y H Q
theorem op_plus : OpR X (binaryOp .Add) (rPlus X.K) := op_add.or (op_add_str.or (op_catR.or op_catT))
theorem str_app (s t : List Nat) : ((⟨s.toArray⟩ : Str) ++ (⟨t.toArray⟩ : Str)) = (⟨(s ++ t).toArray⟩ : Str) := by
  show (⟨s.toArray ++ t.toArray⟩ : Str) = _
  simp
theorem str_len (s : List Nat) : (⟨s.toArray⟩ : Str).length = s.length := by simp [Str.length]
theorem od_plus {K : Fg} : OpD K (rPlus K) addD := by
  intro O H dx dy d vx vy Q ol ix iy e q
  cases dx <;> cases dy <;> first | (simp only [addD, reduceCtorEq] at e; done) | skip
  · simp only [addD, Option.some.injEq] at e
    subst e
    rw [Is.int_iff] at ix iy
    exact .inl ⟨_, _, ix, iy, q _ H (Same.refl H) (by rw [Is.int_iff])⟩
  · rename_i s t
    simp only [addD] at e
    split at e
    · rename_i hl
      cases e
      rw [Is.str_iff] at ix iy
      refine .inr (.inl ⟨_, _, ix, iy, by rw [str_len, str_len]; exact hl, q _ H (Same.refl H) ?_⟩)
      rw [Is.str_iff, str_app]
    · cases e
  · rename_i l m
    simp only [addD] at e
    split at e
    · rename_i hl
      cases e
      rw [Is.tup_iff] at ix iy
      obtain ⟨a, xs, rfl, hs, il⟩ := ix
      obtain ⟨b, ys, rfl, hs2, il2⟩ := iy
      have e1 := il.length
      have e2 := il2.length
      refine .inr (.inr (.inr ⟨a, b, xs, ys, rfl, rfl, hs, hs2, ?_, by omega, fun z => ?_, fun _ p hp => q _ _ (same_upd hp) ?_⟩))
      · rintro rfl
        have : l = [] := by simpa using e1
        subst this
        simp at hl
      · subst z
        have : m = [] := by simpa using e2
        subst this
        simp at hl
      · rw [Is.tup_iff]
        exact ⟨p, _, rfl, SqT.of upd_same, (il.append il2).same (same_upd hp) ol⟩
    · cases e
  · rename_i l m
    simp only [addD] at e
    split at e
    · rename_i hl
      cases e
      rw [Is.lst_iff] at ix iy
      obtain ⟨a, xs, rfl, hs, il⟩ := ix
      obtain ⟨b, ys, rfl, hs2, il2⟩ := iy
      have e1 := il.length
      have e2 := il2.length
      refine .inr (.inr (.inl ⟨a, b, xs, ys, rfl, rfl, hs.sq, hs2.sq, by omega, fun p hp => q _ _ (same_upd hp) ?_⟩))
      rw [Is.lst_iff]
      refine ⟨p, _, rfl, .inl ⟨fun z => ?_, .inl upd_same⟩, (il.append il2).same (same_upd hp) ol⟩
      obtain ⟨zs, ez⟩ := ol p z
      rw [hp] at ez; cases ez
    · cases e
theorem od_I {K : Fg} {C : Int → Int → Prop} {g : Int → Int → V} {m : D → D → Option D} (h : ∀ dx dy d, m dx dy = some d → ∃ i j, dx = .int i ∧ dy = .int j ∧ C i j ∧ ∀ O H, Is K O H d (g i j)) : OpD K (rI C g) m := by
  intro O H dx dy d vx vy Q ol ix iy e q
  obtain ⟨i, j, rfl, rfl, hc, hd⟩ := h dx dy d e
  rw [Is.int_iff] at ix iy
  exact ⟨i, j, ix, iy, hc, q _ H (Same.refl H) (hd O H)⟩
theorem od_I0 {K : Fg} {g : Int → Int → V} {m : D → D → Option D} (h : ∀ dx dy d, m dx dy = some d → ∃ i j, dx = .int i ∧ dy = .int j ∧ ∀ O H, Is K O H d (g i j)) : OpD K (rI0 g) m := by
  intro O H dx dy d vx vy Q ol ix iy e q
  obtain ⟨i, j, rfl, rfl, hd⟩ := h dx dy d e
  rw [Is.int_iff] at ix iy
  exact ⟨i, j, ix, iy, q _ H (Same.refl H) (hd O H)⟩
theorem od_mul {K : Fg} : OpD K (rI CMul fun i j => .int (i * j)) mulD := od_I fun dx dy d e => by
  cases dx <;> cases dy <;> first | (simp only [mulD, reduceCtorEq] at e; done) | skip
  simp only [mulD] at e
  split at e
  · rename_i hc; cases e; exact ⟨_, _, rfl, rfl, hc, fun O H => by rw [Is.int_iff]⟩
  · cases e
theorem od_fdiv {K : Fg} : OpD K (rI CDiv fun i j => .int (i / j)) fdivD := od_I fun dx dy d e => by
  cases dx <;> cases dy <;> first | (simp only [fdivD, reduceCtorEq] at e; done) | skip
  simp only [fdivD] at e
  split at e
  · rename_i hc; cases e; exact ⟨_, _, rfl, rfl, hc, fun O H => by rw [Is.int_iff]⟩
  · cases e
theorem od_mod {K : Fg} : OpD K (rI (fun _ j => 0 < j) fun i j => .int (i % j)) modD := od_I fun dx dy d e => by
  cases dx <;> cases dy <;> first | (simp only [modD, reduceCtorEq] at e; done) | skip
  simp only [modD] at e
  split at e
  · rename_i hc; cases e; exact ⟨_, _, rfl, rfl, hc, fun O H => by rw [Is.int_iff]⟩
  · cases e
theorem od_pow {K : Fg} : OpD K (rI CPow fun i j => .int (i ^ j.toNat)) powD := od_I fun dx dy d e => by
  cases dx <;> cases dy <;> first | (simp only [powD, reduceCtorEq] at e; done) | skip
  simp only [powD] at e
  split at e
  · rename_i hc; cases e; exact ⟨_, _, rfl, rfl, hc, fun O H => by rw [Is.int_iff]⟩
  · cases e
theorem od_gt {K : Fg} : OpD K (rI0 fun i j => .bl (decide (j < i))) gtD := od_I0 fun dx dy d e => by
  cases dx <;> cases dy <;> first | (simp only [gtD, reduceCtorEq] at e; done) | skip
  simp only [gtD, Option.some.injEq] at e
  subst e
  exact ⟨_, _, rfl, rfl, fun O H => by rw [Is.bl_iff]⟩
theorem eqS_ok {K : Fg} {O : Addr → Prop} {H : Hp} {dx dy : D} {vx vy : V} {b : Bool} (ix : Is K O H dx vx) (iy : Is K O H dy vy) (e : eqS dx dy = some b) : scal vx vy = true ∧ decide (vx = vy) = b := by
  cases dx <;> cases dy <;> first | (simp only [eqS, reduceCtorEq] at e; done) | skip
  all_goals simp only [eqS, Option.some.injEq] at e
  all_goals subst e
  all_goals first | rw [Is.int_iff] at ix | rw [Is.str_iff] at ix | rw [Is.bl_iff] at ix | rw [Is.non_iff] at ix
  all_goals first | rw [Is.int_iff] at iy | rw [Is.str_iff] at iy | rw [Is.bl_iff] at iy | rw [Is.non_iff] at iy
  all_goals subst ix iy
  all_goals refine ⟨rfl, ?_⟩
  all_goals simp
theorem od_ne {K : Fg} : OpD K rNe neD := by
  intro O H dx dy d vx vy Q ol ix iy e q
  obtain ⟨b, e1, rfl⟩ := map_some e
  obtain ⟨h1, h2⟩ := eqS_ok ix iy e1
  exact ⟨h1, q _ H (Same.refl H) (by rw [Is.bl_iff, h2])⟩
theorem Is.non_only {K : Fg} {O : Addr → Prop} {H : Hp} {d : D} {v : V} (h : Is K O H d v) : decide (v = .non) = (match d with | .non => true | _ => false) := by
  cases d with
  | non => rw [Is.non_iff] at h; subst h; rfl
  | bl b => rw [Is.bl_iff] at h; subst h; rfl
  | int i => rw [Is.int_iff] at h; subst h; rfl
  | str s => rw [Is.str_iff] at h; subst h; rfl
  | ty n => rw [Is.ty_iff] at h; subst h; rfl
  | ref a => rw [Is.ref_iff] at h; subst h; rfl
  | tup l => rw [Is.tup_iff] at h; obtain ⟨a, xs, rfl, _⟩ := h; rfl
  | lst l => rw [Is.lst_iff] at h; obtain ⟨a, xs, rfl, _⟩ := h; rfl
theorem od_isN {K : Fg} : OpD K (fun x y H Q => y = .non ∧ Q (.bl (decide (x = .non))) H) isND := by
  intro O H dx dy d vx vy Q ol ix iy e q
  unfold isND at e
  cases dy <;> first | (cases e; done) | skip
  rw [Is.non_iff] at iy
  refine ⟨iy, q _ H (Same.refl H) ?_⟩
  have h := ix.non_only
  cases dx <;> cases e <;> rw [Is.bl_iff, h]
theorem od_notN {K : Fg} : OpD K (fun x y H Q => y = .non ∧ Q (.bl (!decide (x = .non))) H) notND := by
  intro O H dx dy d vx vy Q ol ix iy e q
  unfold notND at e
  cases dy <;> first | (cases e; done) | skip
  rw [Is.non_iff] at iy
  refine ⟨iy, q _ H (Same.refl H) ?_⟩
  have h := ix.non_only
  cases dx <;> cases e <;> rw [Is.bl_iff, h] <;> rfl
def flatD : D → Bool
  | .int _ => true
  | .str _ => true
  | _ => false
def eqF : D → D → Bool
  | .int i, .int j => decide (i = j)
  | .str s, .str t => decide (s = t)
  | _, _ => false
def inD (neg : Bool) (x y : D) : Option D := match y with
  | .lst l => if flatD x = true ∧ l.all flatD = true then some (.bl (if neg then !(l.any fun z => eqF z x) else l.any fun z => eqF z x)) else none
  | .tup l => if flatD x = true ∧ l.all flatD = true then some (.bl (if neg then !(l.any fun z => eqF z x) else l.any fun z => eqF z x)) else none
  | _ => none
theorem flat_ok {K : Fg} {O : Addr → Prop} {H : Hp} {d : D} {v : V} (h : Is K O H d v) (f : flatD d = true) : flatV v = true := by
  cases d <;> first | (cases f; done) | skip
  · rw [Is.int_iff] at h; subst h; rfl
  · rw [Is.str_iff] at h; subst h; rfl
theorem eqF_ok {K : Fg} {O : Addr → Prop} {H : Hp} {d e : D} {v u : V} (h : Is K O H d v) (f : flatD d = true) (h' : Is K O H e u) (f' : flatD e = true) : eqV v u = eqF d e := by
  cases d <;> first | (cases f; done) | skip
  all_goals cases e <;> first | (cases f'; done) | skip
  all_goals first | rw [Is.int_iff] at h | rw [Is.str_iff] at h
  all_goals first | rw [Is.int_iff] at h' | rw [Is.str_iff] at h'
  all_goals subst h h'
  · simp [eqV, eqF]
    rw [Bool.beq_eq_decide_eq]
  · rfl
  · rfl
  · rename_i s t
    simp only [eqV, eqF]
    by_cases z : s = t
    · subst z; simp
    · rw [decide_eq_false z, beq_eq_false_iff_ne]
      intro z'
      have : s.toArray = t.toArray := by injection z'
      exact z (by simpa using this)
theorem in_ok {K : Fg} {O : Addr → Prop} {H : Hp} {d : D} {v : V} (h : Is K O H d v) (f : flatD d = true) : ∀ {l : List D} {xs : List V}, IsL K O H l xs → l.all flatD = true → xs.all flatV = true ∧ inV v xs = l.any fun z => eqF z d
  | [], xs, il, _ => by unfold IsL at il; subst il; exact ⟨rfl, rfl⟩
  | e :: l, xs, il, fa => by
    unfold IsL at il
    obtain ⟨u, r, rfl, i1, i2⟩ := il
    rw [List.all_cons, Bool.and_eq_true] at fa
    obtain ⟨q1, q2⟩ := in_ok h f i2 fa.2
    refine ⟨by rw [List.all_cons, flat_ok i1 fa.1, q1]; rfl, ?_⟩
    unfold inV at q2 ⊢
    rw [List.any_cons, List.any_cons, q2, eqF_ok i1 fa.1 h f]
end
def ixD : D → D → Option D
  | .lst l, .int i => atI l i
  | .tup l, .int i => atI l i
  | .str s, .int i => if s.length ≤ sizeLine then (atI s i).map fun c => .str [c] else none
  | _, _ => none
theorem atI_len {α β : Type} {l : List α} {m : List β} {i : Int} {x : α} (hl : l.length = m.length) (e : atI l i = some x) : ∃ j : Nat, l[j]? = some x ∧ ∀ y, m[j]? = some y → atI m i = some y := by
  unfold atI at e ⊢
  obtain ⟨j, e1, e2⟩ := bind_some e
  exact ⟨j, e2, fun y ey => by rw [← hl, e1]; exact ey⟩
section
variable {X : Cx} {pos : Pos} {a b : Expr} {f g : ME}
theorem od_ix {K : Fg} : OpD K (rIx K) ixD := by
  intro O H dx dy d vx vy Q ol ix iy e q
  cases dx <;> cases dy <;> first | (simp only [ixD, reduceCtorEq] at e; done) | skip
  · rename_i s i
    simp only [ixD] at e
    split at e
    · rename_i hl
      obtain ⟨c, e1, rfl⟩ := map_some e
      rw [Is.str_iff] at ix
      rw [Is.int_iff] at iy
      exact .inr (.inr ⟨_, i, c, ix, iy, by rw [str_len]; exact hl, by simpa using e1, q _ H (Same.refl H) (by rw [Is.str_iff])⟩)
    · cases e
  · rename_i l i
    simp only [ixD] at e
    rw [Is.tup_iff] at ix
    rw [Is.int_iff] at iy
    obtain ⟨p, xs, rfl, hs, il⟩ := ix
    obtain ⟨j, e1, e2⟩ := atI_len il.length e
    obtain ⟨v, e3, iv⟩ := il.get e1
    exact .inr (.inl ⟨p, xs, i, v, rfl, iy, hs, e2 v e3, q _ H (Same.refl H) iv⟩)
  · rename_i l i
    simp only [ixD] at e
    rw [Is.lst_iff] at ix
    rw [Is.int_iff] at iy
    obtain ⟨p, xs, rfl, hs, il⟩ := ix
    obtain ⟨j, e1, e2⟩ := atI_len il.length e
    obtain ⟨v, e3, iv⟩ := il.get e1
    exact .inl ⟨p, xs, i, v, rfl, iy, hs.sq, e2 v e3, q _ H (Same.refl H) iv⟩
theorem de_ix (ha : DE X a f) (hb : DE X b g) (hs : PlainIx b := by intro _ _; rfl) : DE X (.Subscript a b pos) (mBin ixD f g) :=
  PE.conseq (pe_ix ix_seq ha hb hs) fun σ H Q h => two (ta := lE X.K f) (tb := lE X.K g) od_ix h
def lenD : D → Option D
  | .lst l => some (.int l.length)
  | .tup l => some (.int l.length)
  | .str s => if s.length ≤ sizeLine then some (.int s.length) else none
  | _ => none
theorem call_lenA : CallR X (.builtin "len") (fun xs H Q => (∃ p ys, xs = [.ref p] ∧ (SqL X.K H p ys ∨ SqT X.K H p ys) ∧ Q (.int ys.length) H) ∨ (∃ z, xs = [.str z] ∧ z.length ≤ sizeLine ∧ Q (.int z.length) H)) := call_len_seq.or call_len_str
theorem lenD_ok {K : Fg} {O : Addr → Prop} {H : Hp} {x d : D} {v : V} {Q : VK} (i1 : Is K O H x v) (e : lenD x = some d) (q : ∀ v, Is K O H d v → Q v H) :
    (∃ p ys, [v] = [.ref p] ∧ (SqL K H p ys ∨ SqT K H p ys) ∧ Q (.int ys.length) H) ∨ (∃ z, [v] = [.str z] ∧ z.length ≤ sizeLine ∧ Q (.int z.length) H) := by
  cases x <;> first | (simp only [lenD, reduceCtorEq] at e; done) | skip
  · simp only [lenD] at e
    split at e
    · rename_i hl
      cases e
      rw [Is.str_iff] at i1
      subst i1
      exact .inr ⟨_, rfl, by rw [str_len]; exact hl, q _ (by rw [Is.int_iff, str_len])⟩
    · cases e
  · simp only [lenD, Option.some.injEq] at e
    subst e
    rw [Is.tup_iff] at i1
    obtain ⟨p, ys, rfl, hs, il⟩ := i1
    exact .inl ⟨p, ys, rfl, .inr hs, q _ (by rw [Is.int_iff, il.length])⟩
  · simp only [lenD, Option.some.injEq] at e
    subst e
    rw [Is.lst_iff] at i1
    obtain ⟨p, ys, rfl, hs, il⟩ := i1
    exact .inl ⟨p, ys, rfl, .inl hs.sq, q _ (by rw [Is.int_iff, il.length])⟩
theorem de_len {p' : Pos} (hg : Gl X "len") (hm : X.mg "len" = none) (ha : DE X a f) (hs : starEach [a] X.env = (false, eval a X.env) :: starEach [] X.env := by rfl) : DE X (.Call (.Name "len" p') [a] [] pos) (mUn lenD f) := by
  refine PE.conseq (pe_callB call_lenA hg hm PySem.boot_len (pa_cons ha pa_nil hs) (he := hs)) fun σ H Q h => ?_
  obtain ⟨O0, r, d, hR, e, q⟩ := h
  obtain ⟨x, e1, e2⟩ := bind_some e
  exact ⟨O0, r, x, hR, e1, fun v H1 s1 i1 => lenD_ok i1 e2 fun v' iv => q v' H1 s1 iv⟩
def tyN : D → Option String
  | .non => some "NoneType"
  | .bl _ => some "bool"
  | .int _ => some "int"
  | .str _ => some "str"
  | .tup _ => some "tuple"
  | .lst _ => some "list"
  | _ => none
def subN : List (String × String × Bool) := [("bool", "int", true), ("NoneType", "int", false), ("NoneType", "str", false), ("NoneType", "bool", false), ("NoneType", "tuple", false), ("NoneType", "list", false),
  ("bool", "str", false), ("bool", "tuple", false), ("bool", "list", false), ("int", "bool", false), ("int", "str", false), ("int", "tuple", false), ("int", "list", false),
  ("str", "int", false), ("str", "bool", false), ("str", "tuple", false), ("str", "list", false), ("tuple", "int", false), ("tuple", "bool", false), ("tuple", "str", false), ("tuple", "list", false),
  ("list", "int", false), ("list", "bool", false), ("list", "str", false), ("list", "tuple", false)]
def instN (t T : String) : Option Bool := if t = T then some true else (subN.find? fun x => x.1 == t && x.2.1 == T).map (·.2.2)
def instD (T : String) (d : D) : Option D := (tyN d).bind fun t => (instN t T).map .bl
theorem kit_ok (K : Fg) {t T : String} {b : Bool} (e : instN t T = some b) : PySem.W.kitOne K (.type t) (.type T) = some b := by
  unfold instN at e
  split at e
  · rename_i h; subst h; cases e; unfold PySem.W.kitOne; rw [if_pos (by simp)]
  · obtain ⟨⟨x, y, c⟩, e1, e2⟩ := map_some e
    have hm := List.mem_of_find?_eq_some e1
    have hp := List.find?_some e1
    simp only [Bool.and_eq_true, beq_iff_eq] at hp
    obtain ⟨rfl, rfl⟩ := hp
    subst e2
    unfold subN at hm
    simp only [List.mem_cons, List.not_mem_nil, or_false, Prod.mk.injEq] at hm
    rcases hm with ⟨rfl, rfl, rfl⟩ | ⟨rfl, rfl, rfl⟩ | ⟨rfl, rfl, rfl⟩ | ⟨rfl, rfl, rfl⟩ | ⟨rfl, rfl, rfl⟩ | ⟨rfl, rfl, rfl⟩ | ⟨rfl, rfl, rfl⟩ | ⟨rfl, rfl, rfl⟩ | ⟨rfl, rfl, rfl⟩ | ⟨rfl, rfl, rfl⟩ | ⟨rfl, rfl, rfl⟩ | ⟨rfl, rfl, rfl⟩ | ⟨rfl, rfl, rfl⟩ | ⟨rfl, rfl, rfl⟩ | ⟨rfl, rfl, rfl⟩ | ⟨rfl, rfl, rfl⟩ | ⟨rfl, rfl, rfl⟩ | ⟨rfl, rfl, rfl⟩ | ⟨rfl, rfl, rfl⟩ | ⟨rfl, rfl, rfl⟩ | ⟨rfl, rfl, rfl⟩ | ⟨rfl, rfl, rfl⟩ | ⟨rfl, rfl, rfl⟩ | ⟨rfl, rfl, rfl⟩ | ⟨rfl, rfl, rfl⟩ <;> kernel_rfl
def TyA (K : Fg) (H : Hp) (x : V) (t : String) : Prop := match x with
  | .non => t = "NoneType"
  | .bl _ => t = "bool"
  | .int _ => t = "int"
  | .str _ => t = "str"
  | .ref a => (t = "list" ∧ ∃ xs, SqL K H a xs) ∨ (t = "tuple" ∧ ∃ xs, SqT K H a xs)
  | _ => False
theorem call_isinst : CallR X (.builtin "isinstance") (fun xs H Q => ∃ x t T b, xs = [x, .ty T] ∧ TyA X.K H x t ∧ instN t T = some b ∧ Q (.bl b) H) := by
  intro pins s σ H xs us Q I r h
  obtain ⟨x, t, T, b, rfl, ht, e, q⟩ := h
  obtain ⟨u, v, rfl, r1, r2⟩ := Vals.two r
  cases (show v = Value.type T from r2)
  have e' := kit_ok X.K e
  have fin : ∀ tk, EP X pins σ Q (.bool b) { s with toks := tk } := fun tk => ⟨.bl b, H, I.tok tk, rfl, q⟩
  cases x with
  | non => cases (show t = _ from ht); exact isinst_ok I r1 (.non) e' fin
  | bl y => cases (show t = _ from ht); exact isinst_ok I r1 (.bl y) e' fin
  | int i => cases (show t = _ from ht); exact isinst_ok I r1 (.int i) e' fin
  | str y => cases (show t = _ from ht); exact isinst_ok I r1 (.str y) e' fin
  | ref a =>
    cases (show u = Value.ref a from r1)
    rcases (show (t = "list" ∧ ∃ xs, SqL X.K H a xs) ∨ (t = "tuple" ∧ ∃ xs, SqT X.K H a xs) from ht) with ⟨rfl, xs, hs⟩ | ⟨rfl, xs, hs⟩
    · obtain ⟨its, _, ⟨o, n, h1, h2, _⟩, _⟩ := I.list hs
      exact PySem.W.kia_one PySem.W.kitx_list I.kIn ⟨o, h1, h2⟩ e' (fun z => nomatch z) fin
    · obtain ⟨its, _, ⟨o, h1, h2, _⟩, _⟩ := I.tuple hs
      exact PySem.W.kia_one PySem.W.kitx_tuple I.kIn ⟨o, h1, h2⟩ e' (fun z => nomatch z) fin
  | _ => exact False.elim ht
theorem tyA_ok {K : Fg} {O : Addr → Prop} {H : Hp} {d : D} {v : V} {t : String} (h : Is K O H d v) (e : tyN d = some t) : TyA K H v t := by
  cases d <;> first | (simp only [tyN, reduceCtorEq] at e; done) | skip
  all_goals simp only [tyN, Option.some.injEq] at e
  all_goals subst e
  · rw [Is.non_iff] at h; subst h; rfl
  · rw [Is.bl_iff] at h; subst h; rfl
  · rw [Is.int_iff] at h; subst h; rfl
  · rw [Is.str_iff] at h; subst h; rfl
  · rw [Is.tup_iff] at h; obtain ⟨a, xs, rfl, hs, _⟩ := h; exact .inr ⟨rfl, xs, hs⟩
  · rw [Is.lst_iff] at h; obtain ⟨a, xs, rfl, hs, _⟩ := h; exact .inl ⟨rfl, xs, hs.sq⟩
theorem de_isinst {p' pt : Pos} {x : Str} {T : String} (hg : Gl X "isinstance") (hm : X.mg "isinstance" = none) (ha : DE X a f) (hT : PE X (.Name x pt) (tC (.ty T))) (hs : starEach [a, .Name x pt] X.env = (false, eval a X.env) :: starEach [.Name x pt] X.env := by rfl) (hs2 : starEach [.Name x pt] X.env = (false, eval (.Name x pt) X.env) :: starEach [] X.env := by rfl) : DE X (.Call (.Name "isinstance" p') [a, .Name x pt] [] pos) (mUn (instD T) f) := by
  refine PE.conseq (pe_callB call_isinst hg hm PyProof.Rows.boot_isinstance (pa_cons ha (pa_cons hT pa_nil hs2) hs) (he := hs)) fun σ H Q h => ?_
  obtain ⟨O0, r, d, hR, e, q⟩ := h
  obtain ⟨x, e1, e2⟩ := bind_some e
  obtain ⟨t, e3, e4⟩ := bind_some e2
  obtain ⟨b, e5, rfl⟩ := map_some e4
  exact ⟨O0, r, x, hR, e1, fun v H1 s1 i1 => ⟨v, t, T, b, rfl, tyA_ok i1 e3, e5, q _ H1 s1 (by rw [Is.bl_iff])⟩⟩
end
def mtOf (r : En) (i : Nat) : Option (List D) := (r[i]?).bind Sl.mt
def putO (i : Nat) (l : List D) (r : En) : Option En := match r[i]? with
  | some (.o _) => some (r.set i (.o l))
  | some (.p _) => some (r.set i (.p l))
  | _ => none
section
variable {K : Fg} {O0 : Addr → Prop} {H H' : Hp} {r : En} {σ : St} {i : Nat} {a : Addr} {l l' : List D}
theorem putO_some {r' : En} (e : putO i l' r = some r') : ∃ x y, r[i]? = some x ∧ r' = r.set i y ∧ y.own = some l' ∧ y.mt = some l' ∧ (∃ l, x.mt = some l) ∧ (∀ m, y = .p m ↔ m = l' ∧ ∃ n, x = .p n) ∧ (∀ m, y = .o m ↔ m = l' ∧ ∃ n, x = .o n) ∧ ∀ m, y ≠ .z m := by
  unfold putO at e
  cases e1 : r[i]? with
  | none => rw [e1] at e; cases e
  | some x =>
    rw [e1] at e
    cases x with
    | o n => cases e; exact ⟨.o n, .o l', rfl, rfl, rfl, rfl, ⟨n, rfl⟩, fun m => ⟨(fun z => by cases z), (fun ⟨_, _, z⟩ => by cases z)⟩, fun m => ⟨(fun z => by cases z; exact ⟨rfl, n, rfl⟩), (fun ⟨z, _⟩ => by subst z; rfl)⟩, (fun m z => by cases z)⟩
    | p n => cases e; exact ⟨.p n, .p l', rfl, rfl, rfl, rfl, ⟨n, rfl⟩, fun m => ⟨(fun z => by cases z; exact ⟨rfl, n, rfl⟩), (fun ⟨z, _⟩ => by subst z; rfl)⟩, fun m => ⟨(fun z => by cases z), (fun ⟨_, _, z⟩ => by cases z)⟩, (fun m z => by cases z)⟩
    | _ => cases e
theorem R.put {r' : En} {xs' : List V} (h : R K O0 H r σ) (e : putO i l' r = some r') (ha : σ[i]? = some (some (.ref a))) (kp : ∀ b o, b ≠ a → H b = some o → H' b = some o) (lv : ∀ b, b ≠ a → H' b = none → H b = none) (e' : H' a = some (.lst xs')) (il : IsL K (Ow O0 r σ) H' l' xs') :
    R K O0 H' r' σ ∧ Kp H r σ H' r' σ := by
  obtain ⟨x, y, ex, rfl, yo, ym, ⟨l0, xm⟩, yp, yoo, yz⟩ := putO_some e
  have hi : i < r.length := (List.getElem?_eq_some_iff.mp ex).1
  have own_i : OwnAt r σ a := ⟨i, l0, by rw [ex]; exact mt_own xm, ha⟩
  have mut_i : MutAt r σ a := ⟨i, l0, by rw [ex]; exact xm, ha⟩
  have atO : ∀ b, OwnAt (r.set i y) σ b → OwnAt r σ b := fun b ⟨j, m, e1, q1⟩ => by
    by_cases hj : i = j
    · subst hj; rw [ha] at q1; cases q1; exact own_i
    · rw [get_set_ne hj] at e1; exact ⟨j, m, e1, q1⟩
  have atM : ∀ b, MutAt (r.set i y) σ b → MutAt r σ b := fun b ⟨j, m, e1, q1⟩ => by
    by_cases hj : i = j
    · subst hj; rw [ha] at q1; cases q1; exact mut_i
    · rw [get_set_ne hj] at e1; exact ⟨j, m, e1, q1⟩
  have sub : ∀ b, Ow O0 (r.set i y) σ b → H b ≠ none → Ow O0 r σ b := fun b z _ => z.imp id (atO b)
  have sub' : ∀ b, Ow O0 (r.set i y) σ b → H' b ≠ none → Ow O0 r σ b := fun b z _ => z.imp id (atO b)
  have keep : Keep (Ow O0 r σ) H H' := fun b o e1 n => kp b o (fun z => n (by subst z; exact .inr own_i)) e1
  have lst : ∀ b xs, H b = some (.lst xs) → ∃ ys, H' b = some (.lst ys) := fun b xs e1 => by
    by_cases hb : b = a
    · subst hb; exact ⟨xs', e'⟩
    · exact ⟨xs, kp b _ hb e1⟩
  have ol' : OLst (Ow O0 r σ) H' := fun b z => by obtain ⟨xs, q⟩ := h.ol b z; exact lst b xs q
  refine ⟨⟨by simp [h.len], fun j d e1 => ?_, fun j m e1 => ?_, fun j k b m n e1 e2 q1 q2 => ?_, fun b z => ?_, fun j m b e1 q1 => ?_, fun j m b e1 q1 => ?_⟩, ⟨fun b o e1 n => kp b o (fun z => n (by subst z; exact mut_i)) e1, fun b e1 => ?_, lst, fun b z => .inl (atO b z), fun b z => .inl (atM b z), fun j m e1 => ?_, fun j m e1 => ?_⟩⟩
  · have hj : i ≠ j := fun z => by subst z; rw [get_set_eq hi] at e1; cases e1; cases yo
    rw [get_set_ne hj] at e1
    obtain ⟨v, q1, q2⟩ := h.val j d e1
    exact ⟨v, q1, Is.mono keep h.ol sub _ _ q2⟩
  · by_cases hj : i = j
    · subst hj
      rw [get_set_eq hi] at e1
      have : l' = m := by have e1' : y.own = some m := e1; rw [yo] at e1'; exact Option.some.inj e1'
      subst this
      exact ⟨a, xs', ha, e', IsL.mono (Same.kp (Same.refl H') _) ol' sub' _ _ il⟩
    · rw [get_set_ne hj] at e1
      obtain ⟨b, ys, q1, q2, q3⟩ := h.own j m e1
      have hb : b ≠ a := fun z => by
        subst z
        exact hj (h.apart i j b l0 m (by rw [ex]; exact mt_own xm) e1 ha q1)
      exact ⟨b, ys, q1, kp b _ hb q2, IsL.mono keep h.ol sub _ _ q3⟩
  · have get : ∀ (j : Nat) (m : List D), ((r.set i y)[j]?).bind Sl.own = some m → ∃ m', (r[j]?).bind Sl.own = some m' := fun j m e1 => by
      by_cases hj : i = j
      · subst hj; exact ⟨l0, by rw [ex]; exact mt_own xm⟩
      · rw [get_set_ne hj] at e1; exact ⟨m, e1⟩
    obtain ⟨m', z1⟩ := get j m e1
    obtain ⟨n', z2⟩ := get k n e2
    exact h.apart j k b m' n' z1 z2 q1 q2
  · obtain ⟨xs, q⟩ := h.o0 b z; exact lst b xs q
  · by_cases hj : i = j
    · subst hj
      rw [get_set_eq hi] at e1
      rcases e1 with e1 | e1
      · obtain ⟨_, n, z⟩ := (yoo m).mp (Option.some.inj e1)
        exact h.loc i n b (.inl (by rw [ex, z])) q1
      · exact absurd (Option.some.inj e1) (yz m)
    · rw [get_set_ne hj] at e1
      exact h.loc j m b e1 q1
  · by_cases hj : i = j
    · subst hj
      rw [get_set_eq hi] at e1
      obtain ⟨_, n, z⟩ := (yp m).mp (Option.some.inj e1)
      exact h.par i n b (by rw [ex, z]) q1
    · rw [get_set_ne hj] at e1
      exact h.par j m b e1 q1
  · by_cases hb : b = a
    · subst hb; rw [e'] at e1; cases e1
    · exact lv b hb e1
  · by_cases hj : i = j
    · subst hj
      rw [ex] at e1
      exact ⟨⟨l', by rw [get_set_eq hi, (yp l').mpr ⟨rfl, m, Option.some.inj e1⟩]⟩, rfl⟩
    · exact ⟨⟨m, by rw [get_set_ne hj]; exact e1⟩, rfl⟩
  · have hj : i ≠ j := fun z => by subst z; rw [ex] at e1; cases e1; cases xm
    exact ⟨by rw [get_set_ne hj]; exact e1, rfl⟩
theorem R.upd {r' : En} {xs xs' : List V} (h : R K O0 H r σ) (e : putO i l' r = some r') (ha : σ[i]? = some (some (.ref a))) (hx : H a = some (.lst xs)) (il : IsL K (Ow O0 r σ) H l' xs') : R K O0 (upd H a (.lst xs')) r' σ ∧ Kp H r σ (upd H a (.lst xs')) r' σ := by
  have own_a : Ow O0 r σ a := by
    obtain ⟨x, y, ex, _, _, _, ⟨l0, xm⟩, _⟩ := putO_some e
    exact .inr ⟨i, l0, by rw [ex]; exact mt_own xm, ha⟩
  refine h.put e ha (fun b o hb e1 => by rw [upd_ne hb]; exact e1) (fun b hb e1 => by rw [upd_ne hb] at e1; exact e1) upd_same ?_
  exact IsL.mono (fun b o e1 n => by rw [upd_ne (fun z => n (by subst z; exact own_a))]; exact e1) h.ol (fun _ z _ => z) _ _ il
end
def mApp (i : Nat) (f : ME) : En → Option (D × En) := fun r => (f r).bind fun d => (mtOf r i).bind fun l => if l.length < sizeLine then (putO i (l ++ [d]) r).map fun r' => (.non, r') else none
section
variable {X : Cx} {apos cpos pn : Pos} {e : Expr} {f : ME} {x : Str} {i : Nat}
theorem mt_at {K : Fg} {O0 : Addr → Prop} {H : Hp} {r : En} {σ : St} {l : List D} (h : R K O0 H r σ) (e : mtOf r i = some l) : ∃ a xs, σ[i]? = some (some (.ref a)) ∧ H a = some (.lst xs) ∧ IsL K (Ow O0 r σ) H l xs := by
  obtain ⟨y, e1, e2⟩ := bind_some e
  exact h.own i l (by rw [e1]; exact mt_own e2)
theorem dx_append (i : Nat) {x : Str} (h : PE X (.Name x pn) (tVar i)) (he : DE X e f)
    (hline : (apos.endLine == cpos.line) = true := by rfl) (hbase : attributeBase (.Name x pn) "append" X.env (eval (.Name x pn) X.env) = eval (.Name x pn) X.env := by rfl)
    (hfew : ((backTo cpos (starEach [e] X.env)).all (fun x => !x.1) && (backToKw cpos (keywordEach [] X.env)).all (fun x => x.1.isSome) && decide ([e].length + ([] : List Keyword).length + (if ([] : List Keyword).isEmpty then 0 else 1) < 30)) = true := by rfl)
    (hs : starEach [e] X.env = (false, eval e X.env) :: starEach [] X.env := by rfl) :
    DX X (.Call (.Attribute (.Name x pn) "append" apos) [e] [] cpos) (mApp i f) := by
  refine PE.conseq (pe_bm PySem.F.plainAttrs_list PySem.F.slot_list_append PySem.F.type_list_append mt_append h (pa_cons he pa_nil hs) hbase hfew hline hs) fun σ H Q hq => ?_
  obtain ⟨O0, r, d', r', hR, e, q⟩ := hq
  obtain ⟨d, e1, e⟩ := bind_some e
  obtain ⟨l, e2, e⟩ := bind_some e
  split at e
  · rename_i hl
    obtain ⟨r2, e3, e4⟩ := map_some e
    cases e4
    obtain ⟨a, xs, q1, q2, q3⟩ := mt_at hR e2
    refine ⟨.ref a, q1, .inl ⟨rfl, xs, SqL.of q2⟩, O0, r, d, hR, e1, fun v H1 s1 i1 => ?_⟩
    have R1 := hR.same s1
    obtain ⟨R2, k2⟩ := R1.upd (xs' := xs ++ [v]) e3 q1 (s1 _ _ q2) ((q3.same s1 hR.ol).append (.cons i1 .nil))
    exact ⟨a, xs, v, rfl, rfl, s1 _ _ q2, by rw [← q3.length]; exact hl, q _ _ R2 ((Kp.of_same r σ s1).trans k2) (by rw [Is.non_iff])⟩
  · cases e
end
def capS : Option Sl → Sl
  | some (.v d) => .v d
  | _ => .un
def capR (cap : List Nat) (n : Nat) (r : En) : En := (cap.map fun j => capS r[j]?) ++ List.replicate (n - cap.length) .un
def compL (bd : D → En → Option En) (c : MB) (x : ME) : List D → En → Option (List D)
  | [], _ => some []
  | d :: t, r => (bd d r).bind fun r1 => (c r1).bind fun b => if b = true then (x r1).bind fun y => (compL bd c x t r1).map (y :: ·) else compL bd c x t r1
def mTrue : MB := fun _ => some true
def mCompIf (cap : List Nat) (n : Nat) (it : ML) (bd : D → En → Option En) (c : MB) (x : ME) : ML := fun r => (it r).bind fun l => if l.length < sizeLine then compL bd c x l (capR cap n r) else none
def mComp (cap : List Nat) (n : Nat) (it : ML) (bd : D → En → Option En) (x : ME) : ML := mCompIf cap n it bd mTrue x
theorem R.cap {K : Fg} {O0 : Addr → Prop} {H H2 : Hp} {r : En} {σ : St} {cap : List Nat} {n : Nat} {p : Addr} {ys : List V} (h : R K O0 H r σ) (s : Same H H2) (hp : H p = none) (ep : H2 p = some (.lst ys)) :
    R K (fun b => Ow O0 r σ b ∨ b = p) H2 (capR cap n r) (sigC cap n σ) := by
  have noO : ∀ (i : Nat) (l : List D), ((capR cap n r)[i]?).bind Sl.own ≠ some l := fun i l e => by
    unfold capR at e
    by_cases hi : i < cap.length
    · rw [List.getElem?_append_left (by simpa using hi), List.getElem?_map] at e
      obtain ⟨j, hj⟩ : ∃ j, cap[i]? = some j := ⟨cap[i], by simp [hi]⟩
      rw [hj] at e
      have e' : (capS r[j]?).own = some l := e
      cases ej : r[j]? with
      | none => rw [ej] at e'; cases e'
      | some y => rw [ej] at e'; cases y <;> cases e'
    · rw [List.getElem?_append_right (by simpa using Nat.le_of_not_lt hi), List.getElem?_replicate] at e
      split at e <;> cases e
  have ol : OLst (fun b => Ow O0 r σ b ∨ b = p) H2 := fun b z => z.elim (fun z => (h.same s).ol b z) fun z => by subst z; exact ⟨ys, ep⟩
  refine ⟨by simp [capR, sigC], fun i d e => ?_, fun i l e => absurd e (noO i l), fun i j a l m e1 => absurd e1 (noO i l), ol, fun i l a e => absurd (show ((capR cap n r)[i]?).bind Sl.own = some l by rcases e with e | e <;> rw [e] <;> rfl) (noO i l), fun i l a e => absurd (show ((capR cap n r)[i]?).bind Sl.own = some l by rw [e]; rfl) (noO i l)⟩
  unfold capR at e
  by_cases hi : i < cap.length
  · rw [List.getElem?_append_left (by simpa using hi), List.getElem?_map] at e
    obtain ⟨j, hj⟩ : ∃ j, cap[i]? = some j := ⟨cap[i], by simp [hi]⟩
    rw [hj] at e
    have e' : capS r[j]? = .v d := Option.some.inj e
    have ej : r[j]? = some (.v d) := by
      cases ej : r[j]? with
      | none => rw [ej] at e'; cases e'
      | some y => rw [ej] at e'; cases y <;> cases e'; rfl
    obtain ⟨v, e1, q⟩ := h.val j d ej
    refine ⟨v, ?_, ?_⟩
    · unfold sigC
      rw [List.getElem?_append_left (by simpa using hi), List.getElem?_map, hj]
      show some ((σ[j]?).getD none) = _
      rw [e1]; rfl
    · refine Is.mono (Same.kp s _) h.ol (fun a z nn => ?_) _ _ q
      rcases z with (z | z) | ⟨k, l, ek, _⟩
      · exact z
      · subst z; exact absurd hp nn
      · exact absurd ek (noO k l)
  · rw [List.getElem?_append_right (by simpa using Nat.le_of_not_lt hi), List.getElem?_replicate] at e
    split at e <;> cases e
section
variable {X : Cx} {N' : List Str} {cap : List Nat} {scope : Scope} {elt tg iter : Expr} {ifs : List Expr} {pos : Pos} {it : ML} {bd : D → En → Option En} {c : MB} {x : ME}
theorem comp_read {tc : Option TT} (htc : ∀ {σ : St} {H : Hp} {K1 : V → Hp → Prop} {K0 : Hp → Prop} {te : TE}, (lT X.K c σ H fun b H1 => if b = true then te σ H1 K1 else K0 H1) → tComp1 tc te K1 K0 σ H)
    (n : Nat) {σ : St} {H : Hp} {Q : VK} (h : lF X.K (mCompIf cap n it bd c x) σ H Q) : tComp cap n (lI X.K it) (lG X.K bd) tc (lE X.K x) σ H Q := by
  obtain ⟨O0, r, out, hR, e, q⟩ := h
  obtain ⟨l, e1, e2⟩ := bind_some e
  split at e2
  · rename_i hlen
    refine ⟨O0, r, l, hR, e1, fun J H1 s1 yl p hp => ?_⟩
    have hpH : H p = none := s1.free hp
    refine ⟨fun i m ys σ2 H2 => m = l.length - i ∧ i ≤ l.length ∧ ys.length ≤ i ∧ H2 p = some (.lst ys) ∧ Same H1 H2 ∧ ∃ r2 dn rest, R X.K (fun b => Ow O0 r σ b ∨ b = p) H2 r2 σ2 ∧ (∀ a, ¬ OwnAt r2 σ2 a) ∧ IsL X.K (fun b => Ow O0 r σ b ∨ b = p) H2 dn ys ∧ compL bd c x (l.drop i) r2 = some rest ∧ dn ++ rest = out,
      ⟨l.length, by simp, Nat.zero_le _, Nat.le_refl _, upd_same, same_upd hp, capR cap n r, [], out, ?_, ?_, .nil, by simpa using e2, rfl⟩, ?_⟩
    · exact R.cap hR (s1.trans (same_upd hp)) hpH upd_same
    · rintro a ⟨i, l', e', _⟩
      obtain ⟨b, xs, _, _⟩ := (R.cap (cap := cap) (n := n) hR (s1.trans (same_upd hp)) hpH (upd_same (o := .lst []))).own i l' e'
      unfold capR at e'
      by_cases hi : i < cap.length
      · rw [List.getElem?_append_left (by simpa using hi), List.getElem?_map] at e'
        obtain ⟨j, hj⟩ : ∃ j, cap[i]? = some j := ⟨cap[i], by simp [hi]⟩
        rw [hj] at e'
        have e'' : (capS r[j]?).own = some l' := e'
        cases ej : r[j]? with
        | none => rw [ej] at e''; cases e''
        | some y => rw [ej] at e''; cases y <;> cases e''
      · rw [List.getElem?_append_right (by simpa using Nat.le_of_not_lt hi), List.getElem?_replicate] at e'
        split at e' <;> cases e'
    · rintro i m ys σ2 H2 ⟨rfl, hil, hyl, hp2, s2, r2, dn, rest, R2, no2, il2, e3, eo⟩
      refine ⟨hp2, by omega, ?_⟩
      obtain ⟨y1, y2⟩ := yl i H2 (fun b => Ow O0 r σ b ∨ b = p) (Same.kp s2 _) fun a z nn => z.elim id fun z => by subst z; exact absurd hp nn
      by_cases hlt : i < l.length
      · obtain ⟨go, yd⟩ := y1 hlt
        have hd : l[i]? = some l[i] := by simp [hlt]
        rw [drop_cons hd] at e3
        obtain ⟨r3, e4, e5⟩ := bind_some e3
        obtain ⟨b, e6, e7⟩ := bind_some e5
        refine .inr ⟨go, fun v H3 yv => ?_⟩
        obtain ⟨s3, iv⟩ := yd v H3 yv
        have R3 := R2.same s3
        have ow2 : ∀ a, Ow (fun b => Ow O0 r σ b ∨ b = p) r2 σ2 a → Ow O0 r σ a ∨ a = p := fun a z => z.elim id fun z => absurd z (no2 a)
        refine ⟨_, r2, l[i], r3, R3, ?_, e4, fun σ4 R4 k4 => ?_⟩
        · exact Is.mono (Same.kp (Same.refl H3) _) R3.o0 (fun a z _ => ow2 a z) _ _ (iv _ hd)
        have no4 : ∀ a, ¬ OwnAt r3 σ4 a := fun a z => by
          rcases k4.new a z with z' | z'
          · exact no2 a z'
          · obtain ⟨xs, ex⟩ := R4.ol a (.inr z)
            rw [z'] at ex; cases ex
        have ow4 : ∀ a, Ow (fun b => Ow O0 r σ b ∨ b = p) r3 σ4 a → Ow O0 r σ a ∨ a = p := fun a z => z.elim id fun z => absurd z (no4 a)
        refine htc ⟨_, r3, b, R4, e6, fun H5 s5 => ?_⟩
        have R5 := R4.same s5
        cases b with
        | false =>
          rw [if_neg Bool.false_ne_true] at e7
          refine iteF ⟨l.length - (i + 1), by omega, rfl, hlt, by omega, (s3.trans s5) _ _ hp2, s2.trans (s3.trans s5), r3, dn, rest, R5, no4, ?_, e7, eo⟩
          exact il2.same (s3.trans s5) R2.o0
        | true =>
          rw [if_pos rfl] at e7
          obtain ⟨y, e8, e9⟩ := bind_some e7
          obtain ⟨rest', e10, e11⟩ := map_some e9
          refine iteT ⟨_, r3, y, R5, e8, fun u H6 s6 iu => ?_⟩
          have s26 := s3.trans (s5.trans s6)
          have hp6 := s26 _ _ hp2
          have R6 := R5.same s6
          have kk : Keep (fun b => Ow O0 r σ b ∨ b = p) H6 (upd H6 p (.lst (ys ++ [u]))) := fun b' o e' nn => by rw [upd_ne (fun z => nn (.inr z))]; exact e'
          refine ⟨hp6, l.length - (i + 1), by omega, rfl, hlt, by simp; omega, upd_same, ?_, r3, dn ++ [y], rest', ?_, no4, ?_, e10, ?_⟩
          · intro b' o e'
            have hb : b' ≠ p := fun z => by subst z; rw [hp] at e'; cases e'
            rw [upd_ne hb]
            exact s26 _ _ (s2 _ _ e')
          · refine ⟨R6.len, fun j d ej => ?_, fun j m ej => ?_, R6.apart, fun b' z => ?_, R6.loc, R6.par⟩
            · obtain ⟨w, q1, q2⟩ := R6.val j d ej
              exact ⟨w, q1, Is.mono (fun b' o e' nn => kk b' o e' fun z => nn (.inl z)) R6.ol (fun _ z _ => z) _ _ q2⟩
            · obtain ⟨a', xs', q1, q2, _⟩ := R6.own j m ej
              exact absurd ⟨j, m, ej, q1⟩ (no4 a')
            · rcases z with z | z
              · by_cases hb : b' = p
                · subst hb; exact ⟨_, upd_same⟩
                · rw [upd_ne hb]; exact R6.o0 b' (.inl z)
              · subst z; exact ⟨_, upd_same⟩
          · have i1 := il2.same s26 R2.o0
            have i2 : Is X.K (fun b => Ow O0 r σ b ∨ b = p) H6 y u := Is.mono (Same.kp (Same.refl H6) _) R6.ol (fun a z _ => .inl z) _ _ iu
            exact IsL.mono kk R6.o0 (fun _ z _ => z) _ _ (i1.append (.cons i2 .nil))
          · rw [← eo, ← e11]; simp
      · have hl : l.drop i = [] := List.drop_eq_nil_of_le (by omega)
        rw [hl] at e3
        have e3' : some [] = some rest := e3
        cases e3'
        rw [List.append_nil] at eo
        subst eo
        exact .inl ⟨y2 (by omega), q p ys H2 (s1.trans s2) hpH hp2 il2⟩
  · cases e2
theorem df_compIf {ce : Expr} (hc : X.calm = true) (o : CmpOk X N' cap scope) (hi : DI X tg iter it) (hg : ∀ C fp s H, DG (cxC X N' scope C fp s H) tg bd) (ht : ∀ C fp s H, DT (cxC X N' scope C fp s H) ce c) (he : ∀ C fp s H, DE (cxC X N' scope C fp s H) elt x)
    (n : Nat) (hn : N'.length = n := by rfl) (hs : ∀ x, foldedSetIterable iter X.env x = pure x := by intro _; rfl) : DF X (.ListComp elt [⟨tg, iter, [ce], 0⟩] scope pos) (mCompIf cap n it bd c x) := by
  subst hn
  exact PE.conseq (pe_lcomp (g := lG X.K bd) (te := lE X.K x) (tc := some (lT X.K c)) hc o hi hg ⟨ce, rfl, ht⟩ he hs) fun σ H Q h => comp_read (tc := some (lT X.K c)) (fun z => z) N'.length h
end
def CapOk (X : Cx) (scope : Scope) : List Nat → List Str → Prop
  | [], _ => True
  | j :: t, x :: r => X.N[j]? = some x ∧ scope.names.lookup x = some .free ∧ CapOk X scope t r
  | _ :: _, [] => False
theorem CapOk.get {X : Cx} {scope : Scope} : ∀ {cap : List Nat} {N' : List Str}, CapOk X scope cap N' → ∀ (i j : Nat), cap[i]? = some j → ∃ x, N'[i]? = some x ∧ X.N[j]? = some x ∧ scope.names.lookup x = some .free
  | [], _, _, i, j, e => by simp at e
  | k :: t, [], h, _, _, _ => False.elim h
  | k :: t, x :: r, h, 0, j, e => by
    have e' : k = j := by simpa using e
    subst e'
    exact ⟨x, rfl, h.1, h.2.1⟩
  | k :: t, x :: r, h, i + 1, j, e => by
    obtain ⟨y, q1, q2⟩ := CapOk.get h.2.2 i j (by simpa using e)
    exact ⟨y, by simpa using q1, q2⟩
theorem CapOk.len {X : Cx} {scope : Scope} : ∀ {cap : List Nat} {N' : List Str}, CapOk X scope cap N' → cap.length ≤ N'.length
  | [], _, _ => Nat.zero_le _
  | k :: t, [], h => False.elim h
  | k :: t, x :: r, h => Nat.succ_le_succ (CapOk.len h.2.2)
theorem cmp_mk {X : Cx} {N' : List Str} {cap : List Nat} {scope : Scope} (kind : scope.kind = .function := by rfl) (nc : ∀ y ∈ scope.names, y.2 ≠ .cell := by decide +kernel) (nm : ∀ y ∈ scope.names, y.2 = .local → scope.names.lookup y.1 = some .local := by decide +kernel)
    (fr : ∀ y ∈ scope.names, y.2 = .free → X.env.kindOf y.1 = some .cell ∨ X.env.kindOf y.1 = some .free := by repeat (first | exact List.forall_mem_nil _ | refine List.forall_mem_cons.mpr ⟨fun e => (by first | exact absurd e (by decide) | exact .inl rfl | exact .inr rfl), ?_⟩))
    (capt : CapOk X scope cap N' := by repeat (first | exact trivial | refine ⟨rfl, rfl, ?_⟩)) : CmpOk X N' cap scope := ⟨kind, nc, nm, fr, capt.get, capt.len⟩
end DD
namespace ZZ
open PySem
open PySem
end ZZ
namespace DD
open PySem PySem.Spec PyProof.Rows L2
section
variable {X : Cx} {pins : List (Addr × Obj)} {σ : St} {H : Hp} {s : Shared} {h' : Heap}
theorem inv_drew {t' : Nat} {ch : List Addr} {T : Addr} {vs : List V} {its : List Value} (I : Inv X pins σ H s) (hch : ∀ b ∈ ch, FpOk X pins H b) (hT : s.heap.objs.size ≤ T) (kp : ∀ b o, b ∉ ch → s.heap.get? b = some o → h'.get? b = some o)
    (hz : vs.length ≤ sizeLine) (hv : Vals vs its) (ht : IsTup h' T its.toArray) : Inv X pins σ (upd H T (.tup vs)) { s with heap := h', toks := t' } := by
  have hn : H T = none := I.hok.fresh hT
  have old : ∀ {b : Addr} {o : Obj}, s.heap.get? b = some o → b ≠ T := fun e => Nat.ne_of_lt (Nat.lt_of_lt_of_le (Heap.lt_size e) hT)
  have tr : ∀ {b : Addr} {u : HO}, H b = some u → b ≠ T := fun e => ne_of_none e hn
  have trc : ∀ {b : Addr} {u : HO}, H b = some u → b ∉ ch := fun {b u} e z => by rw [(hch b z).1] at e; cases e
  refine I.step (g' := s.gens) (d' := s.drawn) (ch := ch) (fun b hb => ⟨(hch b hb).2.2.2.1, (hch b hb).2.1, (hch b hb).2.2.2.2.1, (hch b hb).2.2.2.2.2⟩) (fun b o _ _ hc e _ => kp b o hc e) (fun b o _ _ hc e _ => ⟨o.slots, kp b o hc e⟩)
    (fun b o _ e n => by rw [upd_ne (old e)]; exact n) (fun b o hc e => ⟨o, kp b o hc e⟩) (fun b xs e => by rw [upd_ne (tr e)]; exact e) (fun b o u e => by rw [upd_ne (tr e)]; exact e) (fun b ps e => ⟨#[], by rw [upd_ne (tr e), e]; simp⟩) (fun m hm => ?_) (fun b u e => ?_) I.bare
  · obtain ⟨o, es, ep, ho, r⟩ := hm
    exact ⟨o, es, ep, kp _ o (fun z => (hch _ z).2.1 rfl) ho, r⟩
  · by_cases hb : b = T
    · subst hb
      rw [upd_same] at e; cases e
      exact ⟨hz, its, hv, ht⟩
    · rw [upd_ne hb] at e
      refine (I.hok b u e).stay (fun c v hc q => kp c v ?_ q) (fun c q => by rw [upd_ne (tr q)]; exact q) fun c xs q => by rw [upd_ne (tr q)]; exact q
      rcases hc with z | z
      · rw [z]; exact trc e
      · exact trc z
theorem inv_turnL {t' : Nat} {ch : List Addr} (I : Inv X pins σ H s) (hch : ∀ b ∈ ch, FpOk X pins H b) (kp : ∀ b o, b ∉ ch → s.heap.get? b = some o → h'.get? b = some o) : Inv X pins σ H { s with heap := h', toks := t' } := by
  have trc : ∀ {b : Addr} {u : HO}, H b = some u → b ∉ ch := fun {b u} e z => by rw [(hch b z).1] at e; cases e
  refine I.step (g' := s.gens) (d' := s.drawn) (ch := ch) (fun b hb => ⟨(hch b hb).2.2.2.1, (hch b hb).2.1, (hch b hb).2.2.2.2.1, (hch b hb).2.2.2.2.2⟩) (fun b o _ _ hc e _ => kp b o hc e) (fun b o _ _ hc e _ => ⟨o.slots, kp b o hc e⟩)
    (fun b o _ e n => n) (fun b o hc e => ⟨o, kp b o hc e⟩) (fun b xs e => e) (fun b o u e => e) (fun b ps e => ⟨#[], by rw [e]; simp⟩) (fun m hm => ?_) (fun b u e => ?_) I.bare
  · obtain ⟨o, es, ep, ho, r⟩ := hm
    exact ⟨o, es, ep, kp _ o (fun z => (hch _ z).2.1 rfl) ho, r⟩
  · refine (I.hok b u e).stay (fun c v hc q => kp c v ?_ q) (fun _ q => q) fun _ _ q => q
    rcases hc with z | z
    · rw [z]; exact trc e
    · exact trc z
end
theorem cls_ne {h : Heap} {a b : Addr} {o o' : Obj} {n m : String} (e : h.get? a = some o) (c : o.cls = .type n) (e' : h.get? b = some o') (c' : o'.cls = .type m) (d : n ≠ m) : a ≠ b := by
  rintro rfl
  rw [e] at e'; cases e'
  rw [c] at c'; injection c' with q; exact d q
def ItE (K : Fg) (a : Addr) : It :=
  ⟨fun i H => ∃ xs x, SqL K H a xs ∧ xs[i]? = some x, fun i H x H' => ∃ T y, x = .ref T ∧ H T = none ∧ H' = upd H T (.tup [.int i, y]) ∧ ∀ xs, SqL K H a xs → xs[i]? = some y, fun i H => ∃ xs, SqL K H a xs ∧ xs.length = i⟩
theorem turn_enum {P : Program} {w : World} {K : Fg} {elts : List Expr} {k : Nat} {tp : Pos} (a e it : Addr) (hei : e ≠ it) : Turn P w K (.Tuple elts k tp) (ItE K a) [e, it] e (fun i h => (∃ old, IsEnum h e it i old) ∧ h.IsListIter it a i) where
  mem := by simp
  obj := fun i h st b hb => by
    obtain ⟨⟨old, h1⟩, o, h2, h3, h4⟩ := st
    have hb' : b = e ∨ b = it := by simpa using hb
    rcases hb' with rfl | rfl
    · exact ⟨_, h1, fun v z => by cases z⟩
    · exact ⟨o, h2, fun v z => by rw [h4] at z; cases z⟩
  keep := fun i h g st kp => ⟨let ⟨old, h1⟩ := st.1; ⟨old, kp e (by simp) _ h1⟩, st.2.at fun o q => kp it (by simp) o q⟩
  item := by
    intro X hP hw hK hc i pins s σ H E I hf st hg
    subst hP hw hK
    obtain ⟨xs, x, hq, hx⟩ := hg
    obtain ⟨its, rv, p, hz⟩ := I.list hq
    obtain ⟨u, hu, ru⟩ := rv.get hx
    obtain ⟨oa, na, ea, ca, _⟩ := id p
    obtain ⟨⟨old, h1⟩, oi, h2, h3, h4⟩ := id st
    have hae : a ≠ e := cls_ne ea ca h1 rfl (by decide)
    have hai : a ≠ it := cls_ne ea ca h2 h3 (by decide)
    have W := WalksT.enumerate (prog := X.prog) (w := X.w) (A := X.A) (I.ok.hd hc) e it a hei hae hai its.toArray
    have hi : i < its.toArray.size := by
      obtain ⟨q, _⟩ := List.getElem?_eq_some_iff.mp hu
      simpa using q
    refine W.item i s _ _ hi ⟨st.1, st.2, p.isList⟩ fun T vals g tk pt hT isT mid kp => ⟨_, rfl, W.go elts k tp i T _ _ _ mid fun g2 st2 kp2 => ?_⟩
    obtain ⟨t, y, hy, rfl⟩ := pt
    have hy' : y = u := by
      have : its[i]? = some y := by simpa using hy
      rw [hu] at this; exact (Option.some.inj this).symm
    subst hy'
    have isT2 : IsTup g2 T #[.int i t, y] := by
      obtain ⟨o, q1, q2⟩ := isT
      exact ⟨o, kp2 T o (W.apart i T _ mid) q1, q2⟩
    refine ⟨.ref T, upd H T (.tup [.int i, x]), inv_drew (s := s) (t' := tk) I (its := [.int i t, y]) (ch := [e, it]) hf hT (fun b o hb q => kp2 b o hb (kp b o hb q)) (by show 2 ≤ sizeLine; decide) (.cons ⟨t, rfl⟩ (.cons ru .nil)) isT2, rfl, ⟨T, x, rfl, I.hok.fresh hT, rfl, fun ys hys => by rw [I.list_inj hys hq]; exact hx⟩, ⟨st2.1, st2.2.1⟩, fun b hb => ?_⟩
    have hbT : b ≠ T := by
      have hb' : b = e ∨ b = it := by simpa using hb
      rcases hb' with rfl | rfl
      · exact Nat.ne_of_lt (Nat.lt_of_lt_of_le (Heap.lt_size h1) hT)
      · exact Nat.ne_of_lt (Nat.lt_of_lt_of_le (Heap.lt_size h2) hT)
    rw [upd_ne hbT]
    exact (hf b hb).1
  done := by
    intro X hP hw hK hc i pins s σ H E I hf st hg
    subst hP hw hK
    obtain ⟨xs, hq, hx⟩ := hg
    obtain ⟨its, rv, p, hz⟩ := I.list hq
    obtain ⟨oa, na, ea, ca, _⟩ := id p
    obtain ⟨⟨old, h1⟩, oi, h2, h3, h4⟩ := id st
    have hae : a ≠ e := cls_ne ea ca h1 rfl (by decide)
    have hai : a ≠ it := cls_ne ea ca h2 h3 (by decide)
    have W := WalksT.enumerate (prog := X.prog) (w := X.w) (A := X.A) (I.ok.hd hc) e it a hei hae hai its.toArray
    have hl : its.toArray.size = i := by rw [List.size_toArray, ← rv.length]; exact hx
    exact W.done s _ _ (by rw [hl]; exact ⟨st.1, st.2, p.isList⟩) fun g tk kp => ⟨rfl, inv_turnL I hf kp⟩
  self := fun _ _ _ _ _ st h => let ⟨⟨_, h1⟩, _⟩ := st; wpAny_pyIter_enum h1 h
section
variable {X : Cx} {pos : Pos} {a b c : Expr} {f g h : ME}
def mTupOf (fl : ML) : ME := fun r => (fl r).map .tup
theorem de_tupleOf {p' : Pos} {fl : ML} (hg : Gl X "tuple") (hm : X.mg "tuple" = none) (ha : DB X a fl) (hs : starEach [a] X.env = (false, eval a X.env) :: starEach [] X.env := by rfl) : DE X (.Call (.Name "tuple" p') [a] [] pos) (mTupOf fl) := by
  refine PE.conseq (pe_callTy call_tuple_of hg hm PyProof.Rows.boot_tuple (pa_cons ha pa_nil hs) (he := hs)) fun σ H Q hq => ?_
  obtain ⟨O0, r, d, hR, e, q⟩ := hq
  obtain ⟨l, e1, rfl⟩ := map_some e
  refine ⟨O0, r, l, hR, e1, fun p xs H1 s1 sq il => ⟨p, xs, rfl, .inl ⟨sq, fun t ht => q _ _ (s1.trans (same_upd ht)) ?_⟩⟩⟩
  rw [Is.tup_iff]
  exact ⟨t, xs, rfl, SqT.of upd_same, il.same (same_upd ht) (hR.same s1).ol⟩
theorem db_f {fl : ML} (h : DF X a fl) : DB X a fl := by
  refine PE.conseq h fun σ H Q hq => ?_
  obtain ⟨O0, r, l, hR, e, q⟩ := hq
  refine ⟨O0, r, l, hR, e, fun p xs H1 s1 n1 e1 il => q p xs H1 s1 (SqL.of e1) ?_⟩
  have ol : OLst (fun b => Ow O0 r σ b ∨ b = p) H1 := fun b z => z.elim (fun z => (hR.same s1).ol b z) fun z => by subst z; exact ⟨xs, e1⟩
  exact IsL.mono (Same.kp (Same.refl H1) _) ol (fun a z _ => .inl z) l xs il
end
open PySem PySem.Spec PyProof.Rows L2 PySem.StrLaws
def cutL {α : Type} (xs : List α) (lo hi : Option Int) : List α := (xs.drop (HT.sIx xs.length 0 lo)).take (HT.sIx xs.length xs.length hi - HT.sIx xs.length 0 lo)
theorem sIx_le' (n d : Nat) (hd : d ≤ n) (o : Option Int) : HT.sIx n d o ≤ n := HT.sIx_le n d hd o
theorem sliceIdx_eq (lo hi : Option Int) (n : Nat) : Builtin.Str.strSliceIndices lo hi 1 n = Builtin.Str.strSliceIndices (some ((HT.sIx n 0 lo : Nat) : Int)) (some ((HT.sIx n n hi : Nat) : Int)) 1 n := by
  have key : ∀ (v : Option Int) (d : Nat), d ≤ n → (match v with | none => (d : Int) | some i => max 0 (min (if i < 0 then i + (n : Int) else i) (n : Int))) = max 0 (min (if ((HT.sIx n d v : Nat) : Int) < 0 then ((HT.sIx n d v : Nat) : Int) + (n : Int) else ((HT.sIx n d v : Nat) : Int)) (n : Int)) := by
    intro v d hd
    have hle := sIx_le' n d hd v
    have h0 : ¬ (((HT.sIx n d v : Nat) : Int) < 0) := by omega
    rw [if_neg h0]
    cases v with
    | none =>
      have e : HT.sIx n d none = d := rfl
      rw [e]; show (d : Int) = _; omega
    | some i =>
      have e : HT.sIx n d (some i) = if i < 0 then (i + (n : Int)).toNat else min i.toNat n := rfl
      show max 0 (min (if i < 0 then i + (n : Int) else i) (n : Int)) = _
      rw [e] at hle ⊢
      split <;> split at hle <;> omega
  have e1 : (1 : Int) > 0 := by omega
  unfold PySem.Builtin.Str.strSliceIndices
  simp only [e1, if_true]
  have k1 := key lo 0 (Nat.zero_le _)
  have k2 := key hi n (Nat.le_refl _)
  cases lo <;> cases hi <;> simp only at k1 k2 ⊢ <;> rw [← k1, ← k2] <;> rfl
theorem sliceText_eq (x : Str) (lo hi : Option Int) : sliceText x lo hi = ⟨(cutL x.cps.toList lo hi).toArray⟩ := by
  have hl : x.cps.toList.length = x.length := by simp [Str.length]
  unfold cutL
  rw [hl]
  have ha := sIx_le' x.length 0 (Nat.zero_le _) lo
  have hb := sIx_le' x.length x.length (Nat.le_refl _) hi
  have e : sliceText x lo hi = sliceText x (some ((HT.sIx x.length 0 lo : Nat) : Int)) (some ((HT.sIx x.length x.length hi : Nat) : Int)) := by
    unfold sliceText
    rw [sliceIdx_eq lo hi x.length]
  rw [e]
  by_cases hab : HT.sIx x.length 0 lo ≤ HT.sIx x.length x.length hi
  · exact sliceText_nat x hab hb
  · have z : HT.sIx x.length x.length hi - HT.sIx x.length 0 lo = 0 := by omega
    rw [z, List.take_zero]
    have em : Builtin.Str.strSliceIndices (some ((HT.sIx x.length 0 lo : Nat) : Int)) (some ((HT.sIx x.length x.length hi : Nat) : Int)) 1 x.length = [] := by
      have e1 : (1 : Int) > 0 := by omega
      unfold PySem.Builtin.Str.strSliceIndices
      simp only [e1, if_true]
      have h0 : ¬ (((HT.sIx x.length 0 lo : Nat) : Int) < 0) := by omega
      have h1 : ¬ (((HT.sIx x.length x.length hi : Nat) : Int) < 0) := by omega
      rw [if_neg h0, if_neg h1]
      unfold PySem.sliceRange
      simp only [e1, if_true]
      split
      · omega
      · rfl
    unfold sliceText
    rw [em]
    split
    · rename_i q
      have q' : x.length = 0 := by have : 0 = x.length := by simpa using q
                                   exact this.symm
      apply Str.ext'
      have : x.cps.size = 0 := q'
      exact Array.eq_empty_of_size_eq_zero this
    · rfl
section
variable {X : Cx} {pos p2 : Pos} {a b : Expr} {f g : ME}
def rSlS : V → Option Int → Option Int → Hp → VK → Prop := fun x lo hi H Q => ∃ z, x = .str z ∧ z.length ≤ sizeLine ∧ Q (.str ⟨(cutL z.cps.toList lo hi).toArray⟩) H
theorem cutL_len {α : Type} (xs : List α) (lo hi : Option Int) : (cutL xs lo hi).length ≤ xs.length := by
  unfold cutL
  rw [List.length_take, List.length_drop]
  omega
theorem sl_str : SlR X rSlS := by
  intro pins s σ H x v vl vu lo hi sl Q I rx hs pl pu hq
  obtain ⟨z, rfl, hz, q⟩ := hq
  obtain ⟨t, rfl⟩ := rx
  refine ⟨"str", _, PySem.F.slot_str_getitem.lookup, typeIs_str _ _ _, ?_⟩
  have main : ∀ (l u : Option (Int × Tok)), l.map (·.1) = lo → u.map (·.1) = hi → s.heap.IsSlice sl l u none → wpAny (model X.prog X.w) X.A (getItem (.str z t) (.ref sl)) (EP X pins σ Q) X.xe s := by
    intro l u hl hu hsl
    refine wpAny_getItem_str_slice hsl rfl ?_
    have e : ∀ t' k, EP X pins σ Q (.str (sliceText z lo hi) t') { s with toks := k } := fun t' k => ⟨.str _, H, I.tok k, ⟨t', rfl⟩, by rw [sliceText_eq]; exact q⟩
    have hle : (sliceText z lo hi).length ≤ sizeLine := by
      rw [sliceText_eq, str_len]
      have := cutL_len z.cps.toList lo hi
      have h2 : z.cps.toList.length = z.length := by simp [Str.length]
      omega
    unfold sliceMade slicePicked
    rw [hl, hu]
    exact post_val_or_str ⟨hle, e⟩
  obtain ⟨o, h1, h2, h3⟩ := hs
  cases pl with
  | none => cases pu with
    | none => exact main none none rfl rfl ⟨o, h1, h2, h3⟩
    | int j tj => exact main none (some (j, tj)) rfl rfl ⟨o, h1, h2, h3⟩
  | int i ti => cases pu with
    | none => exact main (some (i, ti)) none rfl rfl ⟨o, h1, h2, h3⟩
    | int j tj => exact main (some (i, ti)) (some (j, tj)) rfl rfl ⟨o, h1, h2, h3⟩
abbrev MO := En → Option (Option Int)
def oSome (f : ME) : MO := fun r => (f r).bind fun d => (intD d).map some
def lO (K : Fg) (f : MO) : TO := fun σ H Q => ∃ O0 r o, R K O0 H r σ ∧ f r = some o ∧ ∀ H', Same H H' → Q o H'
def DO (X : Cx) (e : Option Expr) (f : MO) : Prop := PO X e (lO X.K f)
theorem PO.conseq {e : Option Expr} {t t' : TO} (h : PO X e t) (i : ∀ σ H Q, t' σ H Q → t σ H Q) : PO X e t' := fun pins s σ H Q I q => h pins s σ H Q I (i σ H Q q)
theorem do_some (ha : DE X a f) : DO X (some a) (oSome f) := PO.conseq (po_some ha) fun σ H Q ⟨O0, r, o, hR, e, q⟩ => by
  obtain ⟨d, e1, e2⟩ := bind_some e
  obtain ⟨i, e3, rfl⟩ := map_some e2
  cases intD_some e3
  exact ⟨O0, r, _, hR, e1, fun v H1 s1 i1 => ⟨i, by rw [Is.int_iff] at i1; exact i1, q H1 s1⟩⟩
def slD (d : D) (lo hi : Option Int) : Option D := match d with
  | .lst l => some (.lst (cutL l lo hi))
  | .tup l => if HT.sIx l.length 0 lo = 0 ∧ HT.sIx l.length l.length hi = l.length then none else some (.tup (cutL l lo hi))
  | .str s => if s.length ≤ sizeLine then some (.str (cutL s lo hi)) else none
  | _ => none
def mSl (f : ME) (lo hi : MO) : ME := fun r => (f r).bind fun d => (lo r).bind fun i => (hi r).bind fun j => slD d i j
def rSlA (K : Fg) : V → Option Int → Option Int → Hp → VK → Prop := fun x lo hi H Q => rSlL K x lo hi H Q ∨ rSlT K x lo hi H Q ∨ rSlS x lo hi H Q
theorem IsL.cut {K : Fg} {O : Addr → Prop} {H : Hp} {l : List D} {xs : List V} (h : IsL K O H l xs) (lo hi : Option Int) : IsL K O H (cutL l lo hi) (cutV xs lo hi) := by
  unfold cutL cutV
  rw [h.length]
  exact (h.drop _).take _
theorem de_sl {lo hi : Option Expr} {fl fh : MO} (ha : DE X a f) (hl : DO X lo fl) (hh : DO X hi fh) : DE X (.Subscript a (.Slice lo hi none p2) pos) (mSl f fl fh) := by
  refine PE.conseq (pe_slice (r := rSlA X.K) (sl_list.or (sl_tup.or sl_str)) ha hl hh) fun σ H Q hq => ?_
  obtain ⟨O0, r, d, hR, e, q⟩ := hq
  obtain ⟨x, e1, e⟩ := bind_some e
  obtain ⟨i, e2, e⟩ := bind_some e
  obtain ⟨j, e3, e⟩ := bind_some e
  refine ⟨O0, r, x, hR, e1, fun v H1 s1 i1 => ⟨O0, r, i, hR.same s1, e2, fun H2 s2 => ⟨O0, r, j, hR.same (s1.trans s2), e3, fun H3 s3 => ?_⟩⟩⟩
  have s13 := (s1.trans s2).trans s3
  have R3 := hR.same s13
  have i3 := i1.same (s2.trans s3) (hR.same s1).ol
  cases x <;> first | (simp only [slD, reduceCtorEq] at e; done) | skip
  · simp only [slD] at e
    split at e
    · rename_i hl'
      cases e
      rw [Is.str_iff] at i3
      refine .inr (.inr ⟨_, i3, by rw [str_len]; exact hl', q _ H3 s13 (by rw [Is.str_iff])⟩)
    · cases e
  · simp only [slD] at e
    split at e
    · cases e
    · rename_i hw
      cases e
      rw [Is.tup_iff] at i3
      obtain ⟨p, xs, rfl, hs, il⟩ := i3
      refine .inr (.inl ⟨p, xs, rfl, hs, by rw [← il.length]; exact hw, fun t ht => q _ _ (s13.trans (same_upd ht)) ?_⟩)
      rw [Is.tup_iff]
      exact ⟨t, _, rfl, SqT.of upd_same, (il.cut i j).same (same_upd ht) R3.ol⟩
  · simp only [slD, Option.some.injEq] at e
    subst e
    rw [Is.lst_iff] at i3
    obtain ⟨p, xs, rfl, hs, il⟩ := i3
    refine .inl ⟨p, xs, rfl, hs.sq, fun t ht => q _ _ (s13.trans (same_upd ht)) ?_⟩
    rw [Is.lst_iff]
    exact ⟨t, _, rfl, .inl ⟨R3.nofresh ht, .inl upd_same⟩, (il.cut i j).same (same_upd ht) R3.ol⟩
end
open PySem PySem.Spec PyProof.Rows L2 PySem.StrLaws
open PySem PySem.Spec PyProof.Rows L2 PySem.StrLaws PySem.Builtin.Str
section
variable {X : Cx} {a b : Expr} {f g : ME} {p pos : Pos} {elts : List Expr} {k : Nat} {tp : Pos}
def z1 (F : V → Hp → Prop) : List V → Hp → Prop
  | [x], H => F x H
  | _, _ => False
theorem z1_inv {F : V → Hp → Prop} : ∀ {vs : List V} {H : Hp}, z1 F vs H → ∃ x, vs = [x] ∧ F x H
  | [x], _, h => ⟨x, rfl, h⟩
  | [], _, h => h.elim
  | _ :: _ :: _, _, h => h.elim
theorem adn0 (n : Nat) {j : Nat} (h : 0 ≠ j) : @Ne Addr (n : Nat) (n + j : Nat) := fun e => h (Nat.add_left_cancel (show n + 0 = n + j from e))
theorem keepL {K : Fg} {O M : Addr → Prop} (mo : ∀ a, M a → O a) {H : Hp} {a : Addr} {xs : List V} (h : LsAt K O H a xs) : ∀ H1, Keep M H H1 → SqL K H1 a xs := fun H1 k => h.imp (fun z => Rd.keep k (fun y => z.1 (mo _ y)) z.2) id
theorem pi_enum {ta : TE} (hg : Gl X "enumerate") (hm : X.mg "enumerate" = none) (ha : PE X a ta) (hs : starEach [a] X.env = [(false, eval a X.env)] := by rfl) :
    PI X (.Tuple elts k tp) (.Call (.Name "enumerate" p) [a] [] pos) (fun σ H R => ta σ H fun x H1 => ∃ u, x = .ref u ∧ (∃ xs, SqL X.K H1 u xs) ∧ R (ItE X.K u) H1) := by
  intro pins s σ H R I h
  have hA : PA X [a] (tCons ta tNil) := pa_cons ha pa_nil (by rw [hs]; rfl)
  refine Call_ (ld_blt I hg hm PyProof.Rows.boot_enumerate (PyProof.Rows.callWith_type1 (thn (hA pos pins s σ H (z1 fun x H1 => ∃ u, x = .ref u ∧ (∃ xs, SqL X.K H1 u xs) ∧ R (ItE X.K u) H1) I h) fun us s1 ⟨vs, H1, I1, r1, q1⟩ => ?_) hs rfl))
  obtain ⟨_, rfl, u, rfl, ⟨xs, hx⟩, q⟩ := z1_inv q1
  obtain ⟨uu, rfl, ru⟩ := Vals.one r1
  cases ru
  obtain ⟨its, _, pl, _⟩ := I1.list hx
  refine call_enumerate_list pl.isList fun h' z1 z2 _ kp => wpAny_pyIter_enum z1 ?_
  refine ⟨_, [s1.heap.objs.size + 1, s1.heap.objs.size], _, _, H1, rfl, I1.kept (t' := s1.toks) kp, turn_enum u _ _ (adn0 _ (by decide)).symm, ⟨⟨_, z1⟩, z2⟩, fun b hb => ?_, q⟩
  have hle : s1.heap.objs.size ≤ b := by
    simp only [List.not_mem_nil, List.mem_cons, or_false] at hb
    rcases hb with h | h
    · rw [h]; exact Nat.le_add_right _ _
    · rw [h]; exact Nat.le_refl _
  exact I1.fpOk hle (I1.hok.fresh hle)
def enumD (l : List D) : List D := l.zipIdx.map fun p => .tup [.int (p.2 : Nat), p.1]
def mEnum (f : ME) : ML := fun r => (f r).bind fun d => match d with
  | .lst l => some (enumD l)
  | _ => none
theorem enum_get {l : List D} {i : Nat} {d : D} (h : (enumD l)[i]? = some d) : ∃ x, l[i]? = some x ∧ d = .tup [.int i, x] := by
  unfold enumD at h
  rw [List.getElem?_map, List.getElem?_zipIdx] at h
  cases e1 : l[i]? with
  | none => rw [e1] at h; cases h
  | some x => rw [e1] at h; simp at h; exact ⟨x, rfl, h.symm⟩
theorem di_enum (hg : Gl X "enumerate") (hm : X.mg "enumerate" = none) (ha : DE X a f) (hs : starEach [a] X.env = [(false, eval a X.env)] := by rfl) : DI X (.Tuple elts k tp) (.Call (.Name "enumerate" p) [a] [] pos) (mEnum f) := by
  refine PI.conseq (pi_enum hg hm ha hs) fun σ H Rr hq => ?_
  obtain ⟨O0, r, ds, hR, e, q⟩ := hq
  obtain ⟨x, e1, e⟩ := bind_some e
  refine ⟨O0, r, x, hR, e1, fun v1 H1 s1 i1 => ?_⟩
  have R1 := hR.same s1
  cases x <;> first | (simp only [reduceCtorEq] at e; done) | skip
  rename_i l
  simp only [Option.some.injEq] at e
  subst e
  rw [Is.lst_iff] at i1
  obtain ⟨u, xs, rfl, hx, il⟩ := i1
  refine ⟨u, rfl, ⟨xs, hx.sq⟩, q _ H1 s1 ?_⟩
  intro i H2 O' kp oo
  have kp' : Keep (Ow O0 r σ) H1 H2 := fun b o e n => kp b o e fun z => n (.inr z.own)
  have sq2 := keepL (M := MutAt r σ) (fun a z => .inr z.own) hx H2 kp
  have hlen : (enumD l).length = l.length := by simp [enumD]
  refine ⟨fun hi => ⟨?_, fun y H' yy => ?_⟩, fun hi => ⟨xs, sq2, by rw [← il.length, ← hlen]; exact hi.symm⟩⟩
  · obtain ⟨d, ed⟩ := get_of_lt hi
    obtain ⟨dx, ex, _⟩ := enum_get ed
    obtain ⟨vx, q1, _⟩ := il.get ex
    exact ⟨xs, vx, sq2, q1⟩
  · obtain ⟨T, w, rfl, nT, rfl, h1⟩ := yy
    refine ⟨same_upd nT, fun d ed => ?_⟩
    obtain ⟨dx, ex, rfl⟩ := enum_get ed
    obtain ⟨vx, q1, i1⟩ := il.get ex
    have p1 := h1 xs sq2
    rw [q1] at p1
    cases p1
    have kk : Keep (Ow O0 r σ) H1 (upd H2 T (.tup [.int i, w])) := fun b o e' n => by
      have := kp' b o e' n
      rw [upd_ne (ne_of_none this nT)]; exact this
    rw [Is.tup_iff]
    exact ⟨T, _, rfl, SqT.of upd_same, .cons (by rw [Is.int_iff]) (.cons (Is.mono kk R1.ol oo _ _ i1) .nil)⟩
end
section
variable {X : Cx} {a b : Expr} {f g : ME} {p pos : Pos} {elts : List Expr} {k : Nat} {tp : Pos}
theorem noF {H : Hp} : OLst (fun _ => False) H := fun _ z => z.elim
end
section
variable {w : World} {prog : Program} {E : Value → Shared → Prop} {A : Around}
theorem drawL {it l : Addr} {ys : Array Value} (hne : l ≠ it) : ∀ (n i : Nat) (s : Shared) (Q : List Value → Shared → Prop), s.heap.IsListIter it l i → s.heap.IsList l ys → i + n ≤ ys.size →
    (∀ g, g.IsListIter it l (i + n) → Heap.SameBut it s.heap g → Q ((ys.toList.drop i).take n) { s with heap := g }) → wpAny (model prog w) A (draw (.ref it) n) Q E s
  | 0, i, s, Q, h1, _, _, h => by
    show wpAny _ _ (pure []) Q E s; exact wpAny_pure (by simpa using h s.heap h1 (Heap.SameBut.refl ..))
  | n + 1, i, s, Q, h1, h2, h3, h => by
    have hl : i < ys.size := by omega
    show wpAny _ _ (pyNext (.ref it) >>= _) Q E s; refine wpAny_bind (wpAny_pyNext_list_item h1 h2 (x := ys[i]) (by simp [hl]) fun g1 k1 t1 => ?_)
    refine wpAny_bind (wpAny_holding (drawL hne n (i + 1) _ _ k1 (h2.extBut t1.extBut hne) (by omega) fun g2 k2 t2 => wpAny_pure (?_)))
    have hd : ys.toList.drop i = ys[i] :: ys.toList.drop (i + 1) := by simp [List.drop_eq_getElem_cons, hl]
    have := h g2 (by rw [show i + (n + 1) = i + 1 + n by omega]; exact k2) (t1.trans t2)
    rw [hd, List.take_succ_cons] at this; exact this
theorem unpackL {l : Addr} {ys : Array Value} {s : Shared} {Q : List Value → Shared → Prop} (hh : A.handled = none) (h2 : s.heap.IsList l ys) (h : ∀ g, Heap.ExtBut s.heap.objs.size s.heap g → Q ys.toList { s with heap := g }) : wpAny (model prog w) A (unpackItems (.ref l) ys.size none) Q E s := by
  have hlt : l ≠ s.heap.objs.size := by obtain ⟨o, e, _⟩ := h2; exact Nat.ne_of_lt (Heap.lt_size e)
  unfold unpackItems; refine wpAny_bind (?_); unfold notIterableAtAll
  refine wpAny_bind (wpAny_specialOf h2.typeIs F.slot_list_iter.lookup (wpAny_pure (?_))); simp only [Bool.false_eq_true, if_false]; refine wpAny_bind (wpAny_holding (wpAny_pyIter_list h2 (?_)))
  refine wpAny_bind (wpAny_holding (drawL hlt ys.size 0 _ _ ⟨_, Heap.get?_push_size _ rfl, rfl, rfl⟩ (h2.push _) (by omega) fun g1 k1 t1 => ?_))
  have ha : List.take ys.size (List.drop 0 ys.toList) = ys.toList := by rw [List.drop_zero]; exact List.take_of_length_le (by simp)
  rw [ha, if_neg (by simp)]
  refine wpAny_bind (wpAny_holding (wpAny_pyNext_list_end hh k1 ((h2.push _).extBut t1.extBut hlt) (by simp) fun g2 t2 => ?_)); simp only [Option.isSome_none, Bool.false_eq_true, if_false]
  exact wpAny_pure (h g2 fun b o hb e => t2 b o hb (t1.extBut b o hb (Heap.get?_push_of_some _ e)))
end
section
variable {X : Cx} {pos : Pos} {es : List Expr} {k n : Nat}
theorem pg_seq {t : TGs} (hc : X.calm = true) (h : PGs X es t) (hn : (assignEach es X.env).length = n := by rfl) (hst : (assignEach es X.env).findIdx? (·.1) = none := by rfl) :
    PG X (.Tuple es k pos) (fun v σ H Q => ∃ a xs, v = .ref a ∧ (SqT X.K H a xs ∨ SqL X.K H a xs) ∧ xs.length = n ∧ t xs σ H Q) := by
  intro pins s σ H v u Q I r hw
  obtain ⟨a, xs, e1, hq, hl, hw⟩ := hw
  subst e1
  cases r
  rcases hq with hq | hq
  · exact pg_tup hc h hn hst pins s σ H (.ref a) (.ref a) Q I rfl ⟨a, xs, rfl, hq, hl, hw⟩
  · obtain ⟨its, rv, pl, hz⟩ := I.list hq
    rw [assign_Tuple]
    refine wpAny_bind (wpAny_standAt ?_)
    unfold unpack
    rw [hst]
    have hsz : (assignEach es X.env).length = its.toArray.size := by rw [hn, List.size_toArray, ← rv.length]; exact hl.symm
    rw [hsz]
    refine wpAny_bind (wpAny_holding (unpackL (I.ok.hd hc) pl.isList fun g hx => ?_))
    have I1 : Inv X pins σ H { s with heap := g } := I.kept (t' := s.toks) fun b o e => hx b o (Nat.ne_of_lt (Heap.lt_size e)) e
    exact h pins _ σ H xs _ Q I1 (by simpa using rv) hw
def bdSeq (n : Nat) (bs : List D → En → Option En) : D → En → Option En := fun d r => match d with
  | .tup l => if l.length = n then bs l r else none
  | .lst l => if l.length = n then bs l r else none
  | _ => none
theorem dg_seq {bs : List D → En → Option En} (hc : X.calm = true) (h : DGs X es bs) (hn : (assignEach es X.env).length = n := by rfl) (hst : (assignEach es X.env).findIdx? (·.1) = none := by rfl) : DG X (.Tuple es k pos) (bdSeq n bs) := by
  refine PG.conseq (pg_seq hc h hn hst) fun v σ H Q h => ?_
  obtain ⟨O0, r, d, r', hR, iv, e, q⟩ := h
  cases d <;> first | (simp only [bdSeq, reduceCtorEq] at e; done) | skip
  · rename_i l
    rw [Is.tup_iff] at iv
    obtain ⟨a, xs, rfl, hs, il⟩ := iv
    simp only [bdSeq] at e
    split at e
    · rename_i hl
      exact ⟨a, xs, rfl, .inl hs, by rw [← il.length]; exact hl, O0, r, l, r', hR, il, e, q⟩
    · cases e
  · rename_i l
    rw [Is.lst_iff] at iv
    obtain ⟨a, xs, rfl, hs, il⟩ := iv
    simp only [bdSeq] at e
    split at e
    · rename_i hl
      exact ⟨a, xs, rfl, .inr hs.sq, by rw [← il.length]; exact hl, O0, r, l, r', hR, il, e, q⟩
    · cases e
end
section
variable {X : Cx}
variable {apos cpos pn : Pos} {e : Expr} {f : ME}
end
def eqLV : List V → List V → Bool
  | [], [] => true
  | x :: xs, y :: ys => eqV x y && eqLV xs ys
  | _, _ => false
def eqLF : List D → List D → Bool
  | [], [] => true
  | x :: xs, y :: ys => eqF x y && eqLF xs ys
  | _, _ => false
def eqAtJ (xs ys : List V) (j : Nat) : Bool := match xs[j]?, ys[j]? with
  | some x, some y => eqV x y
  | _, _ => false
theorem range_eqJ : ∀ (xs ys : List V), xs.length = ys.length → (List.range xs.length).all (eqAtJ xs ys) = eqLV xs ys
  | [], [], _ => rfl
  | x :: xs, y :: ys, h => by
    rw [List.length_cons, List.range_succ_eq_map, List.all_cons, List.all_map, eqLV, ← range_eqJ xs ys (by simpa using h)]
    rfl
  | [], y :: ys, h => by simp at h
  | x :: xs, [], h => by simp at h
theorem eqLV_len : ∀ (xs ys : List V), xs.length ≠ ys.length → eqLV xs ys = false
  | [], [], h => by simp at h
  | x :: xs, y :: ys, h => by rw [eqLV, eqLV_len xs ys (by simpa using h), Bool.and_false]
  | [], y :: ys, h => rfl
  | x :: xs, [], h => rfl
theorem eqLF_ok {K : Fg} {O : Addr → Prop} {H : Hp} : ∀ {l m : List D} {xs ys : List V}, IsL K O H l xs → IsL K O H m ys → l.all flatD = true → m.all flatD = true → xs.all flatV = true ∧ ys.all flatV = true ∧ eqLV xs ys = eqLF l m
  | [], [], xs, ys, h, h', _, _ => by unfold IsL at h h'; subst h h'; exact ⟨rfl, rfl, rfl⟩
  | [], e :: m, xs, ys, h, h', _, f' => by
    unfold IsL at h; subst h
    rw [List.all_cons, Bool.and_eq_true] at f'
    unfold IsL at h'; obtain ⟨v, r, rfl, h1, h2⟩ := h'
    exact ⟨rfl, by rw [List.all_cons, flat_ok h1 f'.1, (eqLF_ok (l := []) IsL.nil h2 rfl f'.2).2.1]; rfl, rfl⟩
  | d :: l, [], xs, ys, h, h', f, _ => by
    unfold IsL at h'; subst h'
    rw [List.all_cons, Bool.and_eq_true] at f
    unfold IsL at h; obtain ⟨v, r, rfl, h1, h2⟩ := h
    exact ⟨by rw [List.all_cons, flat_ok h1 f.1, (eqLF_ok (m := []) h2 IsL.nil f.2 rfl).1]; rfl, rfl, rfl⟩
  | d :: l, e :: m, xs, ys, h, h', f, f' => by
    rw [List.all_cons, Bool.and_eq_true] at f f'
    unfold IsL at h; obtain ⟨v, r, rfl, h1, h2⟩ := h
    unfold IsL at h'; obtain ⟨v', r', rfl, h1', h2'⟩ := h'
    obtain ⟨a, b, c⟩ := eqLF_ok h2 h2' f.2 f'.2
    exact ⟨by rw [List.all_cons, flat_ok h1 f.1, a]; rfl, by rw [List.all_cons, flat_ok h1' f'.1, b]; rfl, by rw [eqLV, eqLF, c, eqF_ok h1 f.1 h1' f'.1]⟩
section
variable {X : Cx}
def rEqL (K : Fg) (neg : Bool) : R2 := fun x y H Q => ∃ p q xs ys, x = .ref p ∧ y = .ref q ∧ SqL K H p xs ∧ SqL K H q ys ∧ xs.all flatV = true ∧ ys.all flatV = true ∧ Q (.bl (if neg then !eqLV xs ys else eqLV xs ys)) H
theorem all_get {xs : List V} {j : Nat} {x : V} (h : xs.all flatV = true) (e : xs[j]? = some x) : flatV x = true := List.all_eq_true.mp h x (List.mem_of_getElem? e)
theorem vals_at {xs : List V} {its : List Value} (r : Vals xs its) {j : Nat} (h : j < its.toArray.size) : ∃ x, xs[j]? = some x ∧ RelV x its.toArray[j] := by
  have hj : j < xs.length := by rw [r.length]; simpa using h
  obtain ⟨u, e, q⟩ := r.get (i := j) (x := xs[j]) (by simp [hj])
  refine ⟨xs[j], by simp [hj], ?_⟩
  have : its.toArray[j] = u := by
    have h' : j < its.length := by simpa using h
    simp only [List.getElem_toArray]
    rw [List.getElem?_eq_getElem h'] at e
    exact Option.some.inj e
  rw [this]; exact q
theorem items_eq {A : Around} {s : Shared} {xs ys : List V} {its its2 : List Value} (r : Vals xs its) (r2 : Vals ys its2) (fx : xs.all flatV = true) (fy : ys.all flatV = true) : ∀ j (h1 : j < its.toArray.size) (h2 : j < its2.toArray.size), SeqAt.EqAt A s its.toArray[j] its2.toArray[j] (eqAtJ xs ys j) := by
  intro j h1 h2
  obtain ⟨x, e1, q1⟩ := vals_at r h1
  obtain ⟨y, e2, q2⟩ := vals_at r2 h2
  have : eqAtJ xs ys j = eqV x y := by unfold eqAtJ; rw [e1, e2]
  rw [this]
  exact eqAt_V q1 q2 (all_get fx e1) (all_get fy e2)
theorem op_neL (hu : X.A.units < cLine) : OpR X (compareOp .NotEq) (rEqL X.K true) := by
  intro pins s σ H x y v u Q I rx ry h
  obtain ⟨p, q', xs, ys, rfl, rfl, h1, h2, fx, fy, q⟩ := h
  cases rx; cases ry
  obtain ⟨its, r, pl, hz⟩ := I.list h1
  obtain ⟨its2, r2, pl2, hz2⟩ := I.list h2
  have n1 := r.length
  have n2 := r2.length
  by_cases hl : xs.length = ys.length
  · refine SeqAt.RcNeAt.lists pl.isList pl2.isList (by simp only [List.size_toArray]; omega) hu (items_eq r r2 fx fy) _ _ _ _ (fin_bl I q ?_)
    rw [List.size_toArray, ← n1, range_eqJ xs ys hl]; rfl
  · refine SeqAt.RcNeAt.lists_lengths pl.isList pl2.isList (by simp only [List.size_toArray, bne_iff_ne]; omega) hu _ _ _ _ (fin_bl I q ?_)
    rw [eqLV_len xs ys hl]; rfl
def neA (x y : D) : Option D := match x, y with
  | .lst l, .lst m => if l.all flatD = true ∧ m.all flatD = true then some (.bl (!eqLF l m)) else none
  | x, y => neD x y
def rNeA (K : Fg) : R2 := fun x y H Q => rEqL K true x y H Q ∨ rNe x y H Q
theorem op_neA (hu : X.A.units < cLine) : OpR X (compareOp .NotEq) (rNeA X.K) := (op_neL hu).or op_ne
theorem od_neA {K : Fg} : OpD K (rNeA K) neA := by
  intro O H dx dy d vx vy Q ol ix iy e q
  unfold neA at e
  split at e
  · rename_i l m
    split at e
    · rename_i hf
      cases e
      rw [Is.lst_iff] at ix iy
      obtain ⟨a, xs, rfl, hs, il⟩ := ix
      obtain ⟨b, ys, rfl, hs', il'⟩ := iy
      obtain ⟨f1, f2, f3⟩ := eqLF_ok il il' hf.1 hf.2
      exact .inl ⟨a, b, xs, ys, rfl, rfl, hs.sq, hs'.sq, f1, f2, q _ H (Same.refl H) (by rw [Is.bl_iff, f3]; rfl)⟩
    · cases e
  · exact .inr (od_ne O H dx dy d vx vy Q ol ix iy e q)
end
section
variable {es : List Expr} {env : Env} {p : Pos}
theorem stConst {c k} : starEach (.Constant c k p :: es) env = (false, eval (.Constant c k p) env) :: starEach es env := rfl
theorem stName {x} : starEach (.Name x p :: es) env = (false, eval (.Name x p) env) :: starEach es env := rfl
theorem stCall {f l k} : starEach (.Call f l k p :: es) env = (false, eval (.Call f l k p) env) :: starEach es env := rfl
theorem stSub {a b} : starEach (.Subscript a b p :: es) env = (false, eval (.Subscript a b p) env) :: starEach es env := rfl
theorem stBin {a o b} : starEach (.BinOp a o b p :: es) env = (false, eval (.BinOp a o b p) env) :: starEach es env := rfl
end
open Builtin.Str
theorem new_val {K : Fg} {fl : ML} {i : Nat} {σ : St} {H : Hp} {Dn : Ends} (h : lS K (sSet i (mOfF fl)) Dn σ H) : lF K fl σ H (fun v H1 => gName i v σ H1 Dn.nx) := by
  obtain ⟨O0, r, fl', hR, e, q⟩ := h
  obtain ⟨d, e1, e2⟩ := bind_some e
  obtain ⟨r', e3, rfl⟩ := map_some e2
  obtain ⟨l, e4, rfl⟩ := map_some e1
  obtain ⟨hl, np, rfl⟩ := setV_some e3
  refine ⟨O0, r, l, hR, e4, fun p xs H1 s1 n1 e5 i1 => ?_⟩
  have ol : OLst (fun b => Ow O0 r σ b ∨ b = p) H1 := fun b z => z.elim (fun z => (hR.same s1).ol b z) fun z => by subst z; exact ⟨xs, e5⟩
  have iv : Is K (Ow O0 r σ) H1 (.lst l) (.ref p) := by
    rw [Is.lst_iff]
    exact ⟨p, xs, rfl, .inl ⟨hR.nofresh n1, .inl e5⟩, IsL.mono (Same.kp (Same.refl H1) _) ol (fun a z _ => .inl z) l xs i1⟩
  obtain ⟨R1, k1⟩ := (hR.same s1).setv hl np iv
  exact q _ H1 R1 ((Kp.of_same r σ s1).trans k1)
section
variable {X : Cx} {pos spos py : Pos} {elt tg iter : Expr} {it : ML} {bd : D → En → Option En} {c : MB} {x : ME} {cap : List Nat} {N' : List Str} {scope : Scope}
theorem ds_comp (i : Nat) {y : Str} (hc : X.calm = true) (o : CmpOk X N' cap scope) (hi : DI X tg iter it) (hg : ∀ C fp s H, DG (cxC X N' scope C fp s H) tg bd) (he : ∀ C fp s H, DE (cxC X N' scope C fp s H) elt x)
    (n : Nat) (hN : X.N.Nodup) (hn : N'.length = n := by rfl) (hy : X.N[i]? = some y := by rfl) (hx : Loc X.env.scope y := by first | exact Or.inl rfl | exact Or.inr rfl) (hf : X.fn y = true ∨ X.env.scope.names.lookup y = some .local := by first | exact .inl rfl | exact .inr rfl)
    (hsw : swapsWith (.ListComp elt [⟨tg, iter, [], 0⟩] scope pos) (some (.Name y py)) spos.line X.env = pure true := by rfl) (hs : ∀ x, foldedSetIterable iter X.env x = pure x := by intro _; rfl) :
    DS X (.Assign [.Name y py] (.ListComp elt [⟨tg, iter, [], 0⟩] scope pos) spos) (sSet i (mOfF (mComp cap n it bd x))) := by
  subst hn
  exact PS.conseq (ps_lcomp (i := i) (g := lG X.K bd) (te := lE X.K x) (tc := none) hc o hi hg rfl he hN hy hx hf hsw hs) fun Dn σ H h => comp_read (tc := none) (fun {σ H K1 K0 te} z => by
    obtain ⟨O0, r, b, hR, e, q⟩ := z
    unfold mTrue at e; cases e
    have z1 : (if true = true then te σ H K1 else K0 H) := q H (Same.refl H)
    rw [if_pos rfl] at z1
    exact z1) N'.length (new_val h)
end
end DD
namespace TS
open PySem PyProof.Rows
def gallopP : Bool → Keyed → Array Keyed → Nat → Nat → Nat → StateT SortSt Sem (Option Nat) := sortPriv% PySem.Builtin.gallop
section
variable {M : Model} {A : Around} {E : Value → Shared → Prop} {s : Shared} {S : Keyed → Prop} {κ : SortKind}
def Cmp (M : Model) (A : Around) (E : Value → Shared → Prop) (s : Shared) (S : Keyed → Prop) (κ : SortKind) : Prop :=
  ∀ (x y : Keyed) (st : SortSt) (Q : Option Bool → SortSt → Prop), S x → S y → kindOf st = κ → (∀ b, Q (some b) st) → wpS M A E s (lt' x y) Q st
def Allin (S : Keyed → Prop) (a : Array Keyed) : Prop := ∀ x ∈ a, S x
theorem Allin.at {a : Array Keyed} (h : Allin S a) {i : Nat} (hi : i < a.size) : S a[i] := h _ (Array.getElem_mem hi)
theorem elem_ok {a : Array Keyed} {i : Nat} {Q : Keyed → SortSt → Prop} {st : SortSt} (hi : i < a.size) (h : Q a[i] st) : wpS M A E s (elem' a i) Q st := by
  rw [elem'_eq, Array.getElem?_eq_getElem hi]
  exact wpS_pure h
theorem bey (hc : Cmp M A E s S κ) {left : Bool} {key : Keyed} {a : Array Keyed} {i : Nat} {st : SortSt} {Q : Option Bool → SortSt → Prop} (hk : S key) (ha : Allin S a) (hκ : kindOf st = κ) (hi : i < a.size) (h : ∀ b, Q (some b) st) :
    wpS M A E s (elem' a i >>= fun x => if left = true then lt' x key else lt' key x >>= fun r => pure (Option.map (fun z => !z) r)) Q st := by
  refine wpS_bind (elem_ok hi ?_)
  cases left with
  | true => exact hc _ _ _ _ (ha.at hi) hk hκ h
  | false => exact wpS_bind (hc _ _ _ _ hk (ha.at hi) hκ fun b => wpS_pure (h (!b)))
theorem gallop_ok (hc : Cmp M A E s S κ) {left : Bool} {key : Keyed} {a : Array Keyed} {base n hint : Nat} {st : SortSt} {Q : Option Nat → SortSt → Prop} (hk : S key) (ha : Allin S a) (hκ : kindOf st = κ) (hb : base + n ≤ a.size) (hh : hint < n)
    (h : ∀ k, k ≤ n → Q (some k) st) : wpS M A E s (gallopP left key a base n hint) Q st := by
  refine wpS_bind (m := elem' a (base + hint) >>= fun x => if left = true then lt' x key else lt' key x >>= fun r => pure (Option.map (fun z => !z) r)) (bey hc hk ha hκ (by omega) fun b => ?_)
  cases b with
  | true =>
    refine wpS_bind (wpS_mono (Q := fun (c : Option (Option Nat) × Nat × Nat) st' => st = st' ∧ c.1 = none) (wpS_forRange (fun _ (c : Option (Option Nat) × Nat × Nat) st' => st = st' ∧ c.1 = none) ?_ (fun c st' q => q) ⟨rfl, rfl⟩) ?_)
    · rintro i ⟨r, l, u⟩ st' _ _ ⟨rfl, e⟩
      dsimp only at e ⊢
      by_cases g : u ≥ n - hint
      · rw [if_pos g]; exact wpS_pure ⟨rfl, rfl⟩
      · rw [if_neg g]
        refine wpS_bind (bey hc hk ha hκ (by omega) fun b => ?_)
        cases b with
        | true => exact wpS_pure ⟨rfl, rfl⟩
        | false => exact wpS_pure ⟨rfl, rfl⟩
    · rintro ⟨r, l, u⟩ st' ⟨rfl, e⟩
      dsimp only at e ⊢
      subst e
      refine wpS_bind (wpS_mono (Q := fun (c : Option (Option Nat) × Nat × Nat) st' => st = st' ∧ c.1 = none ∧ c.2.2 ≤ n) (wpS_forRange (fun _ (c : Option (Option Nat) × Nat × Nat) st' => st = st' ∧ c.1 = none ∧ c.2.2 ≤ n) ?_ (fun c st' q => q) ⟨rfl, rfl, by dsimp only; omega⟩) ?_)
      · rintro i ⟨r, l, u⟩ st' _ _ ⟨rfl, e, hu⟩
        dsimp only at e hu ⊢
        by_cases g : l ≥ u
        · rw [if_pos g]; exact wpS_pure ⟨rfl, rfl, hu⟩
        · rw [if_neg g]
          refine wpS_bind (bey hc hk ha hκ (by omega) fun b => ?_)
          cases b with
          | true => exact wpS_pure ⟨rfl, rfl, hu⟩
          | false => exact wpS_pure ⟨rfl, rfl, by dsimp only; omega⟩
      · rintro ⟨r, l, u⟩ st' ⟨rfl, e, hu⟩
        dsimp only at e hu ⊢
        subst e
        exact wpS_pure (h _ hu)
  | false =>
    refine wpS_bind (wpS_mono (Q := fun (c : Option (Option Nat) × Nat × Nat) st' => st = st' ∧ c.1 = none) (wpS_forRange (fun _ (c : Option (Option Nat) × Nat × Nat) st' => st = st' ∧ c.1 = none) ?_ (fun c st' q => q) ⟨rfl, rfl⟩) ?_)
    · rintro i ⟨r, l, u⟩ st' _ _ ⟨rfl, e⟩
      dsimp only at e ⊢
      by_cases g : u ≥ hint + 1
      · rw [if_pos g]; exact wpS_pure ⟨rfl, rfl⟩
      · rw [if_neg g]
        refine wpS_bind (bey hc hk ha hκ (by omega) fun b => ?_)
        cases b with
        | true => exact wpS_pure ⟨rfl, rfl⟩
        | false => exact wpS_pure ⟨rfl, rfl⟩
    · rintro ⟨r, l, u⟩ st' ⟨rfl, e⟩
      dsimp only at e ⊢
      subst e
      refine wpS_bind (wpS_mono (Q := fun (c : Option (Option Nat) × Nat × Nat) st' => st = st' ∧ c.1 = none ∧ c.2.2 ≤ n) (wpS_forRange (fun _ (c : Option (Option Nat) × Nat × Nat) st' => st = st' ∧ c.1 = none ∧ c.2.2 ≤ n) ?_ (fun c st' q => q) ⟨rfl, rfl, by dsimp only; omega⟩) ?_)
      · rintro i ⟨r, l, u⟩ st' _ _ ⟨rfl, e, hu⟩
        dsimp only at e hu ⊢
        by_cases g : l ≥ u
        · rw [if_pos g]; exact wpS_pure ⟨rfl, rfl, hu⟩
        · rw [if_neg g]
          refine wpS_bind (bey hc hk ha hκ (by omega) fun b => ?_)
          cases b with
          | true => exact wpS_pure ⟨rfl, rfl, hu⟩
          | false => exact wpS_pure ⟨rfl, rfl, by dsimp only; omega⟩
      · rintro ⟨r, l, u⟩ st' ⟨rfl, e, hu⟩
        dsimp only at e hu ⊢
        subst e
        exact wpS_pure (h _ hu)
end
open PySem PyProof.Rows
def mergeLoP : Array Keyed → Array Keyed → StateT SortSt Sem (Array Keyed) := sortPriv% PySem.Builtin.mergeLo
def mergeHiP : Array Keyed → Array Keyed → StateT SortSt Sem (Array Keyed) := sortPriv% PySem.Builtin.mergeHi
section
variable {M : Model} {A : Around} {E : Value → Shared → Prop} {s : Shared} {S : Keyed → Prop} {κ : SortKind}
theorem s_ite {α : Type} {c : Prop} [Decidable c] {m m' : StateT SortSt Sem α} {Q : α → SortSt → Prop} {st : SortSt} (h : c → wpS M A E s m Q st) (h' : ¬ c → wpS M A E s m' Q st) : wpS M A E s (if c then m else m') Q st := by
  by_cases g : c
  · rw [if_pos g]; exact h g
  · rw [if_neg g]; exact h' g
structure Al (st st' : SortSt) : Prop where
  k : kindOf st' = kindOf st
  a : arrOf st' = arrOf st
  p : pendingOf st' = pendingOf st
  f : failedOf st' = failedOf st
theorem Al.rfl (st : SortSt) : Al st st := ⟨.refl _, .refl _, .refl _, .refl _⟩
theorem Allin.push {a : Array Keyed} {x : Keyed} (h : Allin S a) (hx : S x) : Allin S (a.push x) := fun y hy => by
  rcases Array.mem_push.mp hy with z | z
  · exact h y z
  · subst z; exact hx
theorem Allin.app {a b : Array Keyed} (h : Allin S a) (g : Allin S b) : Allin S (a ++ b) := fun y hy => by
  rcases Array.mem_append.mp hy with z | z
  · exact h y z
  · exact g y z
theorem Allin.ext {a : Array Keyed} (h : Allin S a) (i j : Nat) : Allin S (a.extract i j) := fun y hy => by
  obtain ⟨k, hk, e⟩ := Array.mem_iff_getElem.mp hy
  rw [Array.getElem_extract] at e
  subst e
  exact h.at _
theorem Allin.rev {a : Array Keyed} (h : Allin S a) : Allin S a.reverse := fun y hy => h y (Array.mem_reverse.mp hy)
theorem rule_ok {n : String} {st : SortSt} {Q : PUnit → SortSt → Prop} (h : Q ⟨⟩ st) : wpS M A E s (liftM (rule n) : StateT SortSt Sem PUnit) Q st := wpS_lift (wpAny_rule ⟨rfl, h⟩)
theorem gal_ok {g : Nat} {st : SortSt} {Q : PUnit → SortSt → Prop} (h : ∀ st', Al st st' → Q ⟨⟩ st') : wpS M A E s (modify fun z => SortSt.mk' (kindOf z) (arrOf z) (pendingOf z) g (failedOf z) : StateT SortSt Sem PUnit) Q st := wpS_modify (h _ ⟨rfl, rfl, rfl, rfl⟩)
theorem Al.trans {x y z : SortSt} (a : Al x y) (b : Al y z) : Al x z := ⟨b.k.trans a.k, b.a.trans a.a, b.p.trans a.p, b.f.trans a.f⟩
abbrev L5 := Option (Array Keyed) × Array Keyed × Nat × Nat × Nat
abbrev L6 := Option (Array Keyed) × Array Keyed × Nat × Nat × Nat × Nat
abbrev L7 := Option (Array Keyed) × Array Keyed × Nat × Nat × Nat × Nat × Nat
theorem beqF {a b : Nat} (h : ¬ (a == b) = true) : a ≠ b := by simpa using h
theorem mergeLo_ok (hc : Cmp M A E s S κ) {a b : Array Keyed} {st : SortSt} {Q : Array Keyed → SortSt → Prop} (ha : Allin S a) (hb : Allin S b) (hκ : kindOf st = κ) (h1 : 1 ≤ a.size) (h2 : 1 ≤ b.size)
    (h : ∀ out st', Allin S out → Al st st' → Q out st') : wpS M A E s (mergeLoP a b) Q st := by
  refine wpS_bind (rule_ok ?_)
  refine wpS_bind (elem_ok (a := b) (i := 0) (by (try dsimp only); omega) ?_)
  have s0 : Allin S #[b[0]] := fun y hy => by simp at hy; subst hy; exact hb.at _
  refine s_ite (fun g1 => ?_) (fun g1 => ?_)
  · exact wpS_pure (h _ _ ((s0.app (ha.ext _ _)).app (hb.ext _ _)) (Al.rfl st))
  refine s_ite (fun g2 => ?_) (fun g2 => ?_)
  · exact wpS_pure (h _ _ ((s0.app (hb.ext _ _)).app (ha.ext _ _)) (Al.rfl st))
  have g1 := beqF g1
  have g2 := beqF g2
  refine wpS_bind (wpS_get ?_)
  refine wpS_bind (wpS_mono (Q := fun (c : L5) st' => Al st st' ∧ ∃ o, c.1 = some o ∧ Allin S o) (wpS_forRange (fun i (c : L5) st' => Al st st' ∧ c.1 = none ∧ Allin S c.2.1 ∧ c.2.2.1 + 1 < a.size ∧ c.2.2.2.1 < b.size ∧ i + 1 ≤ c.2.2.1 + c.2.2.2.1) ?_ ?_ ⟨Al.rfl st, rfl, s0, by dsimp only; omega, by dsimp only; omega, by dsimp only; omega⟩) ?_)
  · rintro i ⟨r, out, ia, ib, mg⟩ st1 _ _ ⟨l1, e, so, b1, b2, b3⟩
    dsimp only at e so b1 b2 b3
    subst e
    refine wpS_bind (wpS_mono (Q := fun (c : L6) st' => Al st st' ∧ ((∃ o, c.1 = some o ∧ Allin S o) ∨ (c.1 = none ∧ Allin S c.2.1 ∧ c.2.2.1 + 1 < a.size ∧ c.2.2.2.1 < b.size ∧ ia + ib + 1 ≤ c.2.2.1 + c.2.2.2.1)))
      (wpS_forRange (fun j (c : L6) st' => Al st st' ∧ c.1 = none ∧ Allin S c.2.1 ∧ c.2.2.1 + 1 < a.size ∧ c.2.2.2.1 < b.size ∧ ia + ib + (if j = 0 then 0 else 1) ≤ c.2.2.1 + c.2.2.2.1) ?_ ?_ ⟨l1, rfl, so, b1, b2, by simp⟩) ?_)
    · rintro j ⟨r, out, ja, jb, ac, bc⟩ st2 _ _ ⟨l2, e, so, c1, c2, c3⟩
      dsimp only at e so c1 c2 c3
      subst e
      have c3' : ia + ib ≤ ja + jb := by split at c3 <;> omega
      refine wpS_bind (elem_ok c2 ?_)
      refine wpS_bind (elem_ok (a := a) (i := ja) (by (try dsimp only); omega) ?_)
      refine wpS_bind (hc _ _ _ _ (hb.at c2) (ha.at (by (try dsimp only); omega)) (l2.k.trans hκ) fun w => ?_)
      cases w with
      | true =>
        refine wpS_bind (elem_ok c2 ?_)
        have so' := so.push (hb.at c2)
        refine s_ite (fun g => ?_) (fun g => ?_)
        · exact wpS_pure ⟨l2, .inl ⟨_, rfl, (so'.app (ha.ext _ _)).app (hb.ext _ _)⟩⟩
        · have g := beqF g; (try dsimp only at g)
          refine s_ite (fun _ => ?_) (fun _ => ?_)
          · exact wpS_pure ⟨l2, .inr ⟨rfl, so', c1, by dsimp only; omega, by dsimp only; omega⟩⟩
          · exact wpS_pure ⟨l2, rfl, so', c1, by dsimp only; omega, by dsimp only; rw [if_neg (by (try dsimp only); omega)]; omega⟩
      | false =>
        refine wpS_bind (elem_ok (a := a) (i := ja) (by (try dsimp only); omega) ?_)
        have so' := so.push (ha.at (i := ja) (by (try dsimp only); omega))
        refine s_ite (fun g => ?_) (fun g => ?_)
        · exact wpS_pure ⟨l2, .inl ⟨_, rfl, (so'.app (hb.ext _ _)).app (ha.ext _ _)⟩⟩
        · have g := beqF g; (try dsimp only at g)
          refine s_ite (fun _ => ?_) (fun _ => ?_)
          · exact wpS_pure ⟨l2, .inr ⟨rfl, so', by dsimp only; omega, c2, by dsimp only; omega⟩⟩
          · exact wpS_pure ⟨l2, rfl, so', by dsimp only; omega, c2, by dsimp only; rw [if_neg (by (try dsimp only); omega)]; omega⟩
    · rintro ⟨r, out, ja, jb, ac, bc⟩ st2 ⟨l2, e, so, c1, c2, c3⟩
      rw [if_neg (by (try dsimp only); omega)] at c3
      exact ⟨l2, .inr ⟨e, so, c1, c2, c3⟩⟩
    · rintro ⟨r, out, ja, jb, ac, bc⟩ st2 ⟨l2, q⟩
      dsimp only at q
      rcases q with ⟨o, e, so⟩ | ⟨e, so, c1, c2, c3⟩
      · subst e
        exact wpS_pure ⟨l2, _, rfl, so⟩
      · subst e
        refine wpS_bind (rule_ok ?_)
        refine wpS_bind (wpS_mono (Q := fun (c : L7) st' => Al st st' ∧ ((∃ o, c.1 = some o ∧ Allin S o) ∨ (c.1 = none ∧ Allin S c.2.1 ∧ c.2.2.1 + 1 < a.size ∧ c.2.2.2.1 < b.size ∧ ia + ib + 1 ≤ c.2.2.1 + c.2.2.2.1)))
          (wpS_forRange (fun j (c : L7) st' => Al st st' ∧ c.1 = none ∧ Allin S c.2.1 ∧ c.2.2.1 + 1 < a.size ∧ c.2.2.2.1 < b.size ∧ ia + ib + 1 ≤ c.2.2.1 + c.2.2.2.1) ?_ (fun c st' q => ⟨q.1, .inr q.2⟩) ⟨l2, rfl, so, c1, c2, c3⟩) ?_)
        · rintro j ⟨r, out, ja, jb, mg2, ac, bc⟩ st3 _ _ ⟨l3, e, so, c1, c2, c3⟩
          dsimp only at e so c1 c2 c3
          subst e
          refine s_ite (fun _ => ?_) (fun _ => ?_)
          · skip
            refine wpS_bind (gal_ok fun st4 l4 => ?_)
            have l4 := l3.trans l4
            refine wpS_bind (elem_ok c2 ?_)
            refine wpS_bind (gallop_ok hc (hb.at c2) ha (l4.k.trans hκ) (by (try dsimp only); omega) (by (try dsimp only); omega) fun k hk => ?_); (try dsimp only at hk)
            refine s_ite (fun _ => ?_) (fun _ => ?_)
            · have so2 := so.app (ha.ext ja (ja + k))
              refine s_ite (fun g => ?_) (fun g => ?_)
              · exact wpS_pure ⟨l4, .inl ⟨_, rfl, (so2.app (hb.ext _ _)).app (ha.ext _ _)⟩⟩
              · have g := beqF g; (try dsimp only at g)
                refine s_ite (fun g => ?_) (fun g => ?_)
                · exact wpS_pure ⟨l4, .inl ⟨_, rfl, (so2.app (ha.ext _ _)).app (hb.ext _ _)⟩⟩
                · have g := beqF g; (try dsimp only at g)
                  refine wpS_bind (elem_ok (a := b) (by (try dsimp only); omega) ?_)
                  have so3 := so2.push (hb.at (i := jb) (by (try dsimp only); omega))
                  refine s_ite (fun g => ?_) (fun g => ?_)
                  · exact wpS_pure ⟨l4, .inl ⟨_, rfl, (so3.app (ha.ext _ _)).app (hb.ext _ _)⟩⟩
                  · have g := beqF g; (try dsimp only at g)
                    refine wpS_bind (elem_ok (a := a) (by (try dsimp only); omega) ?_)
                    refine wpS_bind (gallop_ok hc (ha.at (by (try dsimp only); omega)) hb (l4.k.trans hκ) (by (try dsimp only); omega) (by (try dsimp only); omega) fun k2 hk2 => ?_); (try dsimp only at hk2)
                    refine s_ite (fun _ => ?_) (fun _ => ?_)
                    · have so4 := so3.app (hb.ext (jb + 1) (jb + 1 + k2))
                      refine s_ite (fun g => ?_) (fun g => ?_)
                      · exact wpS_pure ⟨l4, .inl ⟨_, rfl, (so4.app (ha.ext _ _)).app (hb.ext _ _)⟩⟩
                      · have g := beqF g; (try dsimp only at g)
                        refine wpS_bind (elem_ok (a := a) (by (try dsimp only); omega) ?_)
                        have so9 := so4.push (ha.at (i := ja + k) (by (try dsimp only); omega))
                        refine s_ite (fun g => ?_) (fun g => ?_)
                        · exact wpS_pure ⟨l4, .inl ⟨_, rfl, (so9.app (hb.ext _ _)).app (ha.ext _ _)⟩⟩
                        · have g := beqF g; (try dsimp only at g)
                          refine s_ite (fun _ => ?_) (fun _ => ?_)
                          · exact wpS_pure ⟨l4, .inr ⟨rfl, so9, by dsimp only; omega, by dsimp only; omega, by dsimp only; omega⟩⟩
                          · exact wpS_pure ⟨l4, rfl, so9, by dsimp only; omega, by dsimp only; omega, by dsimp only; omega⟩
                    · skip
                      refine wpS_bind (elem_ok (a := a) (by (try dsimp only); omega) ?_)
                      have so9 := so3.push (ha.at (i := ja + k) (by (try dsimp only); omega))
                      refine s_ite (fun g => ?_) (fun g => ?_)
                      · exact wpS_pure ⟨l4, .inl ⟨_, rfl, (so9.app (hb.ext _ _)).app (ha.ext _ _)⟩⟩
                      · have g := beqF g; (try dsimp only at g)
                        refine s_ite (fun _ => ?_) (fun _ => ?_)
                        · exact wpS_pure ⟨l4, .inr ⟨rfl, so9, by dsimp only; omega, by dsimp only; omega, by dsimp only; omega⟩⟩
                        · exact wpS_pure ⟨l4, rfl, so9, by dsimp only; omega, by dsimp only; omega, by dsimp only; omega⟩
            · skip
              refine wpS_bind (elem_ok (a := b) (by (try dsimp only); omega) ?_)
              have so3 := so.push (hb.at (i := jb) (by (try dsimp only); omega))
              refine s_ite (fun g => ?_) (fun g => ?_)
              · exact wpS_pure ⟨l4, .inl ⟨_, rfl, (so3.app (ha.ext _ _)).app (hb.ext _ _)⟩⟩
              · have g := beqF g; (try dsimp only at g)
                refine wpS_bind (elem_ok (a := a) (by (try dsimp only); omega) ?_)
                refine wpS_bind (gallop_ok hc (ha.at (by (try dsimp only); omega)) hb (l4.k.trans hκ) (by (try dsimp only); omega) (by (try dsimp only); omega) fun k2 hk2 => ?_); (try dsimp only at hk2)
                refine s_ite (fun _ => ?_) (fun _ => ?_)
                · have so4 := so3.app (hb.ext (jb + 1) (jb + 1 + k2))
                  refine s_ite (fun g => ?_) (fun g => ?_)
                  · exact wpS_pure ⟨l4, .inl ⟨_, rfl, (so4.app (ha.ext _ _)).app (hb.ext _ _)⟩⟩
                  · have g := beqF g; (try dsimp only at g)
                    refine wpS_bind (elem_ok (a := a) (by (try dsimp only); omega) ?_)
                    have so9 := so4.push (ha.at (i := ja) (by (try dsimp only); omega))
                    refine s_ite (fun g => ?_) (fun g => ?_)
                    · exact wpS_pure ⟨l4, .inl ⟨_, rfl, (so9.app (hb.ext _ _)).app (ha.ext _ _)⟩⟩
                    · have g := beqF g; (try dsimp only at g)
                      refine s_ite (fun _ => ?_) (fun _ => ?_)
                      · exact wpS_pure ⟨l4, .inr ⟨rfl, so9, by dsimp only; omega, by dsimp only; omega, by dsimp only; omega⟩⟩
                      · exact wpS_pure ⟨l4, rfl, so9, by dsimp only; omega, by dsimp only; omega, by dsimp only; omega⟩
                · skip
                  refine wpS_bind (elem_ok (a := a) (by (try dsimp only); omega) ?_)
                  have so9 := so3.push (ha.at (i := ja) (by (try dsimp only); omega))
                  refine s_ite (fun g => ?_) (fun g => ?_)
                  · exact wpS_pure ⟨l4, .inl ⟨_, rfl, (so9.app (hb.ext _ _)).app (ha.ext _ _)⟩⟩
                  · have g := beqF g; (try dsimp only at g)
                    refine s_ite (fun _ => ?_) (fun _ => ?_)
                    · exact wpS_pure ⟨l4, .inr ⟨rfl, so9, by dsimp only; omega, by dsimp only; omega, by dsimp only; omega⟩⟩
                    · exact wpS_pure ⟨l4, rfl, so9, by dsimp only; omega, by dsimp only; omega, by dsimp only; omega⟩
          · skip
            refine wpS_bind (gal_ok fun st4 l4 => ?_)
            have l4 := l3.trans l4
            refine wpS_bind (elem_ok c2 ?_)
            refine wpS_bind (gallop_ok hc (hb.at c2) ha (l4.k.trans hκ) (by (try dsimp only); omega) (by (try dsimp only); omega) fun k hk => ?_); (try dsimp only at hk)
            refine s_ite (fun _ => ?_) (fun _ => ?_)
            · have so2 := so.app (ha.ext ja (ja + k))
              refine s_ite (fun g => ?_) (fun g => ?_)
              · exact wpS_pure ⟨l4, .inl ⟨_, rfl, (so2.app (hb.ext _ _)).app (ha.ext _ _)⟩⟩
              · have g := beqF g; (try dsimp only at g)
                refine s_ite (fun g => ?_) (fun g => ?_)
                · exact wpS_pure ⟨l4, .inl ⟨_, rfl, (so2.app (ha.ext _ _)).app (hb.ext _ _)⟩⟩
                · have g := beqF g; (try dsimp only at g)
                  refine wpS_bind (elem_ok (a := b) (by (try dsimp only); omega) ?_)
                  have so3 := so2.push (hb.at (i := jb) (by (try dsimp only); omega))
                  refine s_ite (fun g => ?_) (fun g => ?_)
                  · exact wpS_pure ⟨l4, .inl ⟨_, rfl, (so3.app (ha.ext _ _)).app (hb.ext _ _)⟩⟩
                  · have g := beqF g; (try dsimp only at g)
                    refine wpS_bind (elem_ok (a := a) (by (try dsimp only); omega) ?_)
                    refine wpS_bind (gallop_ok hc (ha.at (by (try dsimp only); omega)) hb (l4.k.trans hκ) (by (try dsimp only); omega) (by (try dsimp only); omega) fun k2 hk2 => ?_); (try dsimp only at hk2)
                    refine s_ite (fun _ => ?_) (fun _ => ?_)
                    · have so4 := so3.app (hb.ext (jb + 1) (jb + 1 + k2))
                      refine s_ite (fun g => ?_) (fun g => ?_)
                      · exact wpS_pure ⟨l4, .inl ⟨_, rfl, (so4.app (ha.ext _ _)).app (hb.ext _ _)⟩⟩
                      · have g := beqF g; (try dsimp only at g)
                        refine wpS_bind (elem_ok (a := a) (by (try dsimp only); omega) ?_)
                        have so9 := so4.push (ha.at (i := ja + k) (by (try dsimp only); omega))
                        refine s_ite (fun g => ?_) (fun g => ?_)
                        · exact wpS_pure ⟨l4, .inl ⟨_, rfl, (so9.app (hb.ext _ _)).app (ha.ext _ _)⟩⟩
                        · have g := beqF g; (try dsimp only at g)
                          refine s_ite (fun _ => ?_) (fun _ => ?_)
                          · exact wpS_pure ⟨l4, .inr ⟨rfl, so9, by dsimp only; omega, by dsimp only; omega, by dsimp only; omega⟩⟩
                          · exact wpS_pure ⟨l4, rfl, so9, by dsimp only; omega, by dsimp only; omega, by dsimp only; omega⟩
                    · skip
                      refine wpS_bind (elem_ok (a := a) (by (try dsimp only); omega) ?_)
                      have so9 := so3.push (ha.at (i := ja + k) (by (try dsimp only); omega))
                      refine s_ite (fun g => ?_) (fun g => ?_)
                      · exact wpS_pure ⟨l4, .inl ⟨_, rfl, (so9.app (hb.ext _ _)).app (ha.ext _ _)⟩⟩
                      · have g := beqF g; (try dsimp only at g)
                        refine s_ite (fun _ => ?_) (fun _ => ?_)
                        · exact wpS_pure ⟨l4, .inr ⟨rfl, so9, by dsimp only; omega, by dsimp only; omega, by dsimp only; omega⟩⟩
                        · exact wpS_pure ⟨l4, rfl, so9, by dsimp only; omega, by dsimp only; omega, by dsimp only; omega⟩
            · skip
              refine wpS_bind (elem_ok (a := b) (by (try dsimp only); omega) ?_)
              have so3 := so.push (hb.at (i := jb) (by (try dsimp only); omega))
              refine s_ite (fun g => ?_) (fun g => ?_)
              · exact wpS_pure ⟨l4, .inl ⟨_, rfl, (so3.app (ha.ext _ _)).app (hb.ext _ _)⟩⟩
              · have g := beqF g; (try dsimp only at g)
                refine wpS_bind (elem_ok (a := a) (by (try dsimp only); omega) ?_)
                refine wpS_bind (gallop_ok hc (ha.at (by (try dsimp only); omega)) hb (l4.k.trans hκ) (by (try dsimp only); omega) (by (try dsimp only); omega) fun k2 hk2 => ?_); (try dsimp only at hk2)
                refine s_ite (fun _ => ?_) (fun _ => ?_)
                · have so4 := so3.app (hb.ext (jb + 1) (jb + 1 + k2))
                  refine s_ite (fun g => ?_) (fun g => ?_)
                  · exact wpS_pure ⟨l4, .inl ⟨_, rfl, (so4.app (ha.ext _ _)).app (hb.ext _ _)⟩⟩
                  · have g := beqF g; (try dsimp only at g)
                    refine wpS_bind (elem_ok (a := a) (by (try dsimp only); omega) ?_)
                    have so9 := so4.push (ha.at (i := ja) (by (try dsimp only); omega))
                    refine s_ite (fun g => ?_) (fun g => ?_)
                    · exact wpS_pure ⟨l4, .inl ⟨_, rfl, (so9.app (hb.ext _ _)).app (ha.ext _ _)⟩⟩
                    · have g := beqF g; (try dsimp only at g)
                      refine s_ite (fun _ => ?_) (fun _ => ?_)
                      · exact wpS_pure ⟨l4, .inr ⟨rfl, so9, by dsimp only; omega, by dsimp only; omega, by dsimp only; omega⟩⟩
                      · exact wpS_pure ⟨l4, rfl, so9, by dsimp only; omega, by dsimp only; omega, by dsimp only; omega⟩
                · skip
                  refine wpS_bind (elem_ok (a := a) (by (try dsimp only); omega) ?_)
                  have so9 := so3.push (ha.at (i := ja) (by (try dsimp only); omega))
                  refine s_ite (fun g => ?_) (fun g => ?_)
                  · exact wpS_pure ⟨l4, .inl ⟨_, rfl, (so9.app (hb.ext _ _)).app (ha.ext _ _)⟩⟩
                  · have g := beqF g; (try dsimp only at g)
                    refine s_ite (fun _ => ?_) (fun _ => ?_)
                    · exact wpS_pure ⟨l4, .inr ⟨rfl, so9, by dsimp only; omega, by dsimp only; omega, by dsimp only; omega⟩⟩
                    · exact wpS_pure ⟨l4, rfl, so9, by dsimp only; omega, by dsimp only; omega, by dsimp only; omega⟩
        · rintro ⟨r, out, ja, jb, mg2, ac, bc⟩ st3 ⟨l3, q⟩
          dsimp only at q
          rcases q with ⟨o, e, so⟩ | ⟨e, so, c1, c2, c3⟩
          · subst e
            exact wpS_pure ⟨l3, _, rfl, so⟩
          · subst e
            refine wpS_bind (gal_ok fun st4 l4 => ?_)
            exact wpS_pure ⟨l3.trans l4, rfl, so, c1, c2, by dsimp only; omega⟩
  · rintro ⟨r, out, ia, ib, mg⟩ st1 ⟨l1, e, so, b1, b2, b3⟩
    exfalso
    dsimp only at b1 b2 b3
    rw [Nat.zero_max] at b3
    omega
  · rintro ⟨r, out, ia, ib, mg⟩ st1 ⟨l1, o, e, so⟩
    dsimp only at e
    subst e
    exact wpS_pure (h _ _ so l1)
end
open PySem PyProof.Rows
section
variable {M : Model} {A : Around} {E : Value → Shared → Prop} {s : Shared} {S : Keyed → Prop} {κ : SortKind}
abbrev H5 := Option (Array Keyed) × Nat × Nat × Array Keyed × Nat
abbrev H6 := Option (Array Keyed) × Nat × Nat × Array Keyed × Nat × Nat
abbrev H7 := Option (Array Keyed) × Nat × Nat × Array Keyed × Nat × Nat × Nat
theorem mergeHi_ok (hc : Cmp M A E s S κ) {a b : Array Keyed} {st : SortSt} {Q : Array Keyed → SortSt → Prop} (ha : Allin S a) (hb : Allin S b) (hκ : kindOf st = κ) (h1 : 1 ≤ a.size) (h2 : 1 ≤ b.size)
    (h : ∀ out st', Allin S out → Al st st' → Q out st') : wpS M A E s (mergeHiP a b) Q st := by
  refine wpS_bind (rule_ok ?_)
  refine wpS_bind (elem_ok (a := a) (i := a.size - 1) (by omega) ?_)
  have s0 : Allin S #[a[a.size - 1]] := fun y hy => by simp at hy; subst hy; exact ha.at _
  refine s_ite (fun g1 => ?_) (fun g1 => ?_)
  · exact wpS_pure (h _ _ (((ha.ext _ _).app (hb.ext _ _)).app s0.rev) (Al.rfl st))
  refine s_ite (fun g2 => ?_) (fun g2 => ?_)
  · exact wpS_pure (h _ _ (((hb.ext _ _).app (ha.ext _ _)).app s0.rev) (Al.rfl st))
  have g1 := beqF g1
  have g2 := beqF g2
  refine wpS_bind (wpS_get ?_)
  refine wpS_bind (wpS_mono (Q := fun (c : H5) st' => Al st st' ∧ ∃ o, c.1 = some o ∧ Allin S o) (wpS_forRange (fun i (c : H5) st' => Al st st' ∧ c.1 = none ∧ Allin S c.2.2.2.1 ∧ 1 ≤ c.2.1 ∧ c.2.1 < a.size ∧ 2 ≤ c.2.2.1 ∧ c.2.2.1 ≤ b.size ∧ i + c.2.1 + c.2.2.1 + 1 ≤ a.size + b.size) ?_ ?_ ⟨Al.rfl st, rfl, s0, by dsimp only; omega, by dsimp only; omega, by dsimp only; omega, by dsimp only; omega, by dsimp only; omega⟩) ?_)
  · rintro i ⟨r, ia, ib, out, mg⟩ st1 _ _ ⟨l1, e, so, b1, b2, b3, b4, b5⟩
    dsimp only at e so b1 b2 b3 b4 b5
    subst e
    refine wpS_bind (wpS_mono (Q := fun (c : H6) st' => Al st st' ∧ ((∃ o, c.1 = some o ∧ Allin S o) ∨ (c.1 = none ∧ Allin S c.2.2.2.1 ∧ 1 ≤ c.2.1 ∧ c.2.1 < a.size ∧ 2 ≤ c.2.2.1 ∧ c.2.2.1 ≤ b.size ∧ c.2.1 + c.2.2.1 + 1 ≤ ia + ib)))
      (wpS_forRange (fun j (c : H6) st' => Al st st' ∧ c.1 = none ∧ Allin S c.2.2.2.1 ∧ 1 ≤ c.2.1 ∧ c.2.1 < a.size ∧ 2 ≤ c.2.2.1 ∧ c.2.2.1 ≤ b.size ∧ c.2.1 + c.2.2.1 + (if j = 0 then 0 else 1) ≤ ia + ib) ?_ ?_ ⟨l1, rfl, so, b1, b2, b3, b4, by simp⟩) ?_)
    · rintro j ⟨r, ja, jb, out, ac, bc⟩ st2 _ _ ⟨l2, e, so, c1, c2, c3, c4, c5⟩
      dsimp only at e so c1 c2 c3 c4 c5
      subst e
      have c5' : ja + jb ≤ ia + ib := by split at c5 <;> omega
      refine wpS_bind (elem_ok (a := b) (i := jb - 1) (by omega) ?_)
      refine wpS_bind (elem_ok (a := a) (i := ja - 1) (by omega) ?_)
      refine wpS_bind (hc _ _ _ _ (hb.at (by omega)) (ha.at (by omega)) (l2.k.trans hκ) fun w => ?_)
      cases w with
      | true =>
        refine wpS_bind (elem_ok (a := a) (i := ja - 1) (by omega) ?_)
        have so' := so.push (ha.at (i := ja - 1) (by omega))
        refine s_ite (fun g => ?_) (fun g => ?_)
        · exact wpS_pure ⟨l2, .inl ⟨_, rfl, ((ha.ext _ _).app (hb.ext _ _)).app so'.rev⟩⟩
        · have g := beqF g; (try dsimp only at g)
          refine s_ite (fun _ => ?_) (fun _ => ?_)
          · exact wpS_pure ⟨l2, .inr ⟨rfl, so', by dsimp only; omega, by dsimp only; omega, by dsimp only; omega, by dsimp only; omega, by dsimp only; omega⟩⟩
          · exact wpS_pure ⟨l2, rfl, so', by dsimp only; omega, by dsimp only; omega, by dsimp only; omega, by dsimp only; omega, by dsimp only; rw [if_neg (by omega)]; omega⟩
      | false =>
        refine wpS_bind (elem_ok (a := b) (i := jb - 1) (by omega) ?_)
        have so' := so.push (hb.at (i := jb - 1) (by omega))
        refine s_ite (fun g => ?_) (fun g => ?_)
        · exact wpS_pure ⟨l2, .inl ⟨_, rfl, ((hb.ext _ _).app (ha.ext _ _)).app so'.rev⟩⟩
        · have g := beqF g; (try dsimp only at g)
          refine s_ite (fun _ => ?_) (fun _ => ?_)
          · exact wpS_pure ⟨l2, .inr ⟨rfl, so', by dsimp only; omega, by dsimp only; omega, by dsimp only; omega, by dsimp only; omega, by dsimp only; omega⟩⟩
          · exact wpS_pure ⟨l2, rfl, so', by dsimp only; omega, by dsimp only; omega, by dsimp only; omega, by dsimp only; omega, by dsimp only; rw [if_neg (by omega)]; omega⟩
    · rintro ⟨r, ja, jb, out, ac, bc⟩ st2 ⟨l2, e, so, c1, c2, c3, c4, c5⟩
      rw [if_neg (by omega)] at c5
      exact ⟨l2, .inr ⟨e, so, c1, c2, c3, c4, c5⟩⟩
    · rintro ⟨r, ja, jb, out, ac, bc⟩ st2 ⟨l2, q⟩
      dsimp only at q
      rcases q with ⟨o, e, so⟩ | ⟨e, so, c1, c2, c3, c4, c5⟩
      · subst e
        exact wpS_pure ⟨l2, _, rfl, so⟩
      · subst e
        refine wpS_bind (rule_ok ?_)
        refine wpS_bind (wpS_mono (Q := fun (c : H7) st' => Al st st' ∧ ((∃ o, c.1 = some o ∧ Allin S o) ∨ (c.1 = none ∧ Allin S c.2.2.2.1 ∧ 1 ≤ c.2.1 ∧ c.2.1 < a.size ∧ 2 ≤ c.2.2.1 ∧ c.2.2.1 ≤ b.size ∧ c.2.1 + c.2.2.1 + 1 ≤ ia + ib)))
          (wpS_forRange (fun j (c : H7) st' => Al st st' ∧ c.1 = none ∧ Allin S c.2.2.2.1 ∧ 1 ≤ c.2.1 ∧ c.2.1 < a.size ∧ 2 ≤ c.2.2.1 ∧ c.2.2.1 ≤ b.size ∧ c.2.1 + c.2.2.1 + 1 ≤ ia + ib) ?_ (fun c st' q => ⟨q.1, .inr q.2⟩) ⟨l2, rfl, so, c1, c2, c3, c4, c5⟩) ?_)
        · rintro j ⟨r, ja, jb, out, mg2, ac, bc⟩ st3 _ _ ⟨l3, e, so, c1, c2, c3, c4, c5⟩
          dsimp only at e so c1 c2 c3 c4 c5
          subst e
          refine s_ite (fun _ => ?_) (fun _ => ?_)
          · skip
            refine wpS_bind (gal_ok fun st4 l4 => ?_)
            have l4 := l3.trans l4
            refine wpS_bind (elem_ok (a := b) (by (try dsimp only); omega) ?_)
            refine wpS_bind (gallop_ok hc (hb.at (by (try dsimp only); omega)) ha (l4.k.trans hκ) (by (try dsimp only); omega) (by (try dsimp only); omega) fun k hk => ?_); (try dsimp only at hk)
            refine s_ite (fun gk => ?_) (fun gk => ?_)
            · (try dsimp only at gk)
              have so2 := so.app (ha.ext k ja).rev
              refine s_ite (fun g => ?_) (fun g => ?_)
              · exact wpS_pure ⟨l4, .inl ⟨_, rfl, ((ha.ext _ _).app (hb.ext _ _)).app so2.rev⟩⟩
              · have g := beqF g; (try dsimp only at g)
                refine wpS_bind (elem_ok (a := b) (by (try dsimp only); omega) ?_)
                have so3 := so2.push (hb.at (i := jb - 1) (by (try dsimp only); omega))
                refine s_ite (fun g => ?_) (fun g => ?_)
                · exact wpS_pure ⟨l4, .inl ⟨_, rfl, ((hb.ext _ _).app (ha.ext _ _)).app so3.rev⟩⟩
                · have g := beqF g; (try dsimp only at g)
                  refine wpS_bind (elem_ok (a := a) (by (try dsimp only); omega) ?_)
                  refine wpS_bind (gallop_ok hc (ha.at (by (try dsimp only); omega)) hb (l4.k.trans hκ) (by (try dsimp only); omega) (by (try dsimp only); omega) fun k2 hk2 => ?_); (try dsimp only at hk2)
                  refine s_ite (fun gk => ?_) (fun gk => ?_)
                  · (try dsimp only at gk)
                    have so4 := so3.app (hb.ext k2 (jb - 1)).rev
                    refine s_ite (fun g => ?_) (fun g => ?_)
                    · exact wpS_pure ⟨l4, .inl ⟨_, rfl, ((hb.ext _ _).app (ha.ext _ _)).app so4.rev⟩⟩
                    · have g := beqF g; (try dsimp only at g)
                      refine s_ite (fun g => ?_) (fun g => ?_)
                      · exact wpS_pure ⟨l4, .inl ⟨_, rfl, ((ha.ext _ _).app (hb.ext _ _)).app so4.rev⟩⟩
                      · have g := beqF g; (try dsimp only at g)
                        refine wpS_bind (elem_ok (a := a) (by (try dsimp only); omega) ?_)
                        have so9 := so4.push (ha.at (i := k - 1) (by (try dsimp only); omega))
                        refine s_ite (fun g => ?_) (fun g => ?_)
                        · exact wpS_pure ⟨l4, .inl ⟨_, rfl, ((ha.ext _ _).app (hb.ext _ _)).app so9.rev⟩⟩
                        · have g := beqF g; (try dsimp only at g)
                          refine s_ite (fun _ => ?_) (fun _ => ?_)
                          · exact wpS_pure ⟨l4, .inr ⟨rfl, so9, by dsimp only; omega, by dsimp only; omega, by dsimp only; omega, by dsimp only; omega, by dsimp only; omega⟩⟩
                          · exact wpS_pure ⟨l4, rfl, so9, by dsimp only; omega, by dsimp only; omega, by dsimp only; omega, by dsimp only; omega, by dsimp only; omega⟩
                  · (try dsimp only at gk)
                    refine wpS_bind (elem_ok (a := a) (by (try dsimp only); omega) ?_)
                    have so9 := so3.push (ha.at (i := k - 1) (by (try dsimp only); omega))
                    refine s_ite (fun g => ?_) (fun g => ?_)
                    · exact wpS_pure ⟨l4, .inl ⟨_, rfl, ((ha.ext _ _).app (hb.ext _ _)).app so9.rev⟩⟩
                    · have g := beqF g; (try dsimp only at g)
                      refine s_ite (fun _ => ?_) (fun _ => ?_)
                      · exact wpS_pure ⟨l4, .inr ⟨rfl, so9, by dsimp only; omega, by dsimp only; omega, by dsimp only; omega, by dsimp only; omega, by dsimp only; omega⟩⟩
                      · exact wpS_pure ⟨l4, rfl, so9, by dsimp only; omega, by dsimp only; omega, by dsimp only; omega, by dsimp only; omega, by dsimp only; omega⟩
            · (try dsimp only at gk)
              refine wpS_bind (elem_ok (a := b) (by (try dsimp only); omega) ?_)
              have so3 := so.push (hb.at (i := jb - 1) (by (try dsimp only); omega))
              refine s_ite (fun g => ?_) (fun g => ?_)
              · exact wpS_pure ⟨l4, .inl ⟨_, rfl, ((hb.ext _ _).app (ha.ext _ _)).app so3.rev⟩⟩
              · have g := beqF g; (try dsimp only at g)
                refine wpS_bind (elem_ok (a := a) (by (try dsimp only); omega) ?_)
                refine wpS_bind (gallop_ok hc (ha.at (by (try dsimp only); omega)) hb (l4.k.trans hκ) (by (try dsimp only); omega) (by (try dsimp only); omega) fun k2 hk2 => ?_); (try dsimp only at hk2)
                refine s_ite (fun gk => ?_) (fun gk => ?_)
                · (try dsimp only at gk)
                  have so4 := so3.app (hb.ext k2 (jb - 1)).rev
                  refine s_ite (fun g => ?_) (fun g => ?_)
                  · exact wpS_pure ⟨l4, .inl ⟨_, rfl, ((hb.ext _ _).app (ha.ext _ _)).app so4.rev⟩⟩
                  · have g := beqF g; (try dsimp only at g)
                    refine s_ite (fun g => ?_) (fun g => ?_)
                    · exact wpS_pure ⟨l4, .inl ⟨_, rfl, ((ha.ext _ _).app (hb.ext _ _)).app so4.rev⟩⟩
                    · have g := beqF g; (try dsimp only at g)
                      refine wpS_bind (elem_ok (a := a) (by (try dsimp only); omega) ?_)
                      have so9 := so4.push (ha.at (i := ja - 1) (by (try dsimp only); omega))
                      refine s_ite (fun g => ?_) (fun g => ?_)
                      · exact wpS_pure ⟨l4, .inl ⟨_, rfl, ((ha.ext _ _).app (hb.ext _ _)).app so9.rev⟩⟩
                      · have g := beqF g; (try dsimp only at g)
                        refine s_ite (fun _ => ?_) (fun _ => ?_)
                        · exact wpS_pure ⟨l4, .inr ⟨rfl, so9, by dsimp only; omega, by dsimp only; omega, by dsimp only; omega, by dsimp only; omega, by dsimp only; omega⟩⟩
                        · exact wpS_pure ⟨l4, rfl, so9, by dsimp only; omega, by dsimp only; omega, by dsimp only; omega, by dsimp only; omega, by dsimp only; omega⟩
                · (try dsimp only at gk)
                  refine wpS_bind (elem_ok (a := a) (by (try dsimp only); omega) ?_)
                  have so9 := so3.push (ha.at (i := ja - 1) (by (try dsimp only); omega))
                  refine s_ite (fun g => ?_) (fun g => ?_)
                  · exact wpS_pure ⟨l4, .inl ⟨_, rfl, ((ha.ext _ _).app (hb.ext _ _)).app so9.rev⟩⟩
                  · have g := beqF g; (try dsimp only at g)
                    refine s_ite (fun _ => ?_) (fun _ => ?_)
                    · exact wpS_pure ⟨l4, .inr ⟨rfl, so9, by dsimp only; omega, by dsimp only; omega, by dsimp only; omega, by dsimp only; omega, by dsimp only; omega⟩⟩
                    · exact wpS_pure ⟨l4, rfl, so9, by dsimp only; omega, by dsimp only; omega, by dsimp only; omega, by dsimp only; omega, by dsimp only; omega⟩
          · skip
            refine wpS_bind (gal_ok fun st4 l4 => ?_)
            have l4 := l3.trans l4
            refine wpS_bind (elem_ok (a := b) (by (try dsimp only); omega) ?_)
            refine wpS_bind (gallop_ok hc (hb.at (by (try dsimp only); omega)) ha (l4.k.trans hκ) (by (try dsimp only); omega) (by (try dsimp only); omega) fun k hk => ?_); (try dsimp only at hk)
            refine s_ite (fun gk => ?_) (fun gk => ?_)
            · (try dsimp only at gk)
              have so2 := so.app (ha.ext k ja).rev
              refine s_ite (fun g => ?_) (fun g => ?_)
              · exact wpS_pure ⟨l4, .inl ⟨_, rfl, ((ha.ext _ _).app (hb.ext _ _)).app so2.rev⟩⟩
              · have g := beqF g; (try dsimp only at g)
                refine wpS_bind (elem_ok (a := b) (by (try dsimp only); omega) ?_)
                have so3 := so2.push (hb.at (i := jb - 1) (by (try dsimp only); omega))
                refine s_ite (fun g => ?_) (fun g => ?_)
                · exact wpS_pure ⟨l4, .inl ⟨_, rfl, ((hb.ext _ _).app (ha.ext _ _)).app so3.rev⟩⟩
                · have g := beqF g; (try dsimp only at g)
                  refine wpS_bind (elem_ok (a := a) (by (try dsimp only); omega) ?_)
                  refine wpS_bind (gallop_ok hc (ha.at (by (try dsimp only); omega)) hb (l4.k.trans hκ) (by (try dsimp only); omega) (by (try dsimp only); omega) fun k2 hk2 => ?_); (try dsimp only at hk2)
                  refine s_ite (fun gk => ?_) (fun gk => ?_)
                  · (try dsimp only at gk)
                    have so4 := so3.app (hb.ext k2 (jb - 1)).rev
                    refine s_ite (fun g => ?_) (fun g => ?_)
                    · exact wpS_pure ⟨l4, .inl ⟨_, rfl, ((hb.ext _ _).app (ha.ext _ _)).app so4.rev⟩⟩
                    · have g := beqF g; (try dsimp only at g)
                      refine s_ite (fun g => ?_) (fun g => ?_)
                      · exact wpS_pure ⟨l4, .inl ⟨_, rfl, ((ha.ext _ _).app (hb.ext _ _)).app so4.rev⟩⟩
                      · have g := beqF g; (try dsimp only at g)
                        refine wpS_bind (elem_ok (a := a) (by (try dsimp only); omega) ?_)
                        have so9 := so4.push (ha.at (i := k - 1) (by (try dsimp only); omega))
                        refine s_ite (fun g => ?_) (fun g => ?_)
                        · exact wpS_pure ⟨l4, .inl ⟨_, rfl, ((ha.ext _ _).app (hb.ext _ _)).app so9.rev⟩⟩
                        · have g := beqF g; (try dsimp only at g)
                          refine s_ite (fun _ => ?_) (fun _ => ?_)
                          · exact wpS_pure ⟨l4, .inr ⟨rfl, so9, by dsimp only; omega, by dsimp only; omega, by dsimp only; omega, by dsimp only; omega, by dsimp only; omega⟩⟩
                          · exact wpS_pure ⟨l4, rfl, so9, by dsimp only; omega, by dsimp only; omega, by dsimp only; omega, by dsimp only; omega, by dsimp only; omega⟩
                  · (try dsimp only at gk)
                    refine wpS_bind (elem_ok (a := a) (by (try dsimp only); omega) ?_)
                    have so9 := so3.push (ha.at (i := k - 1) (by (try dsimp only); omega))
                    refine s_ite (fun g => ?_) (fun g => ?_)
                    · exact wpS_pure ⟨l4, .inl ⟨_, rfl, ((ha.ext _ _).app (hb.ext _ _)).app so9.rev⟩⟩
                    · have g := beqF g; (try dsimp only at g)
                      refine s_ite (fun _ => ?_) (fun _ => ?_)
                      · exact wpS_pure ⟨l4, .inr ⟨rfl, so9, by dsimp only; omega, by dsimp only; omega, by dsimp only; omega, by dsimp only; omega, by dsimp only; omega⟩⟩
                      · exact wpS_pure ⟨l4, rfl, so9, by dsimp only; omega, by dsimp only; omega, by dsimp only; omega, by dsimp only; omega, by dsimp only; omega⟩
            · (try dsimp only at gk)
              refine wpS_bind (elem_ok (a := b) (by (try dsimp only); omega) ?_)
              have so3 := so.push (hb.at (i := jb - 1) (by (try dsimp only); omega))
              refine s_ite (fun g => ?_) (fun g => ?_)
              · exact wpS_pure ⟨l4, .inl ⟨_, rfl, ((hb.ext _ _).app (ha.ext _ _)).app so3.rev⟩⟩
              · have g := beqF g; (try dsimp only at g)
                refine wpS_bind (elem_ok (a := a) (by (try dsimp only); omega) ?_)
                refine wpS_bind (gallop_ok hc (ha.at (by (try dsimp only); omega)) hb (l4.k.trans hκ) (by (try dsimp only); omega) (by (try dsimp only); omega) fun k2 hk2 => ?_); (try dsimp only at hk2)
                refine s_ite (fun gk => ?_) (fun gk => ?_)
                · (try dsimp only at gk)
                  have so4 := so3.app (hb.ext k2 (jb - 1)).rev
                  refine s_ite (fun g => ?_) (fun g => ?_)
                  · exact wpS_pure ⟨l4, .inl ⟨_, rfl, ((hb.ext _ _).app (ha.ext _ _)).app so4.rev⟩⟩
                  · have g := beqF g; (try dsimp only at g)
                    refine s_ite (fun g => ?_) (fun g => ?_)
                    · exact wpS_pure ⟨l4, .inl ⟨_, rfl, ((ha.ext _ _).app (hb.ext _ _)).app so4.rev⟩⟩
                    · have g := beqF g; (try dsimp only at g)
                      refine wpS_bind (elem_ok (a := a) (by (try dsimp only); omega) ?_)
                      have so9 := so4.push (ha.at (i := ja - 1) (by (try dsimp only); omega))
                      refine s_ite (fun g => ?_) (fun g => ?_)
                      · exact wpS_pure ⟨l4, .inl ⟨_, rfl, ((ha.ext _ _).app (hb.ext _ _)).app so9.rev⟩⟩
                      · have g := beqF g; (try dsimp only at g)
                        refine s_ite (fun _ => ?_) (fun _ => ?_)
                        · exact wpS_pure ⟨l4, .inr ⟨rfl, so9, by dsimp only; omega, by dsimp only; omega, by dsimp only; omega, by dsimp only; omega, by dsimp only; omega⟩⟩
                        · exact wpS_pure ⟨l4, rfl, so9, by dsimp only; omega, by dsimp only; omega, by dsimp only; omega, by dsimp only; omega, by dsimp only; omega⟩
                · (try dsimp only at gk)
                  refine wpS_bind (elem_ok (a := a) (by (try dsimp only); omega) ?_)
                  have so9 := so3.push (ha.at (i := ja - 1) (by (try dsimp only); omega))
                  refine s_ite (fun g => ?_) (fun g => ?_)
                  · exact wpS_pure ⟨l4, .inl ⟨_, rfl, ((ha.ext _ _).app (hb.ext _ _)).app so9.rev⟩⟩
                  · have g := beqF g; (try dsimp only at g)
                    refine s_ite (fun _ => ?_) (fun _ => ?_)
                    · exact wpS_pure ⟨l4, .inr ⟨rfl, so9, by dsimp only; omega, by dsimp only; omega, by dsimp only; omega, by dsimp only; omega, by dsimp only; omega⟩⟩
                    · exact wpS_pure ⟨l4, rfl, so9, by dsimp only; omega, by dsimp only; omega, by dsimp only; omega, by dsimp only; omega, by dsimp only; omega⟩
        · rintro ⟨r, ja, jb, out, mg2, ac, bc⟩ st3 ⟨l3, q⟩
          dsimp only at q
          rcases q with ⟨o, e, so⟩ | ⟨e, so, c1, c2, c3, c4, c5⟩
          · subst e
            exact wpS_pure ⟨l3, _, rfl, so⟩
          · subst e
            refine wpS_bind (gal_ok fun st4 l4 => ?_)
            exact wpS_pure ⟨l3.trans l4, rfl, so, c1, c2, c3, c4, by dsimp only; omega⟩
  · rintro ⟨r, ia, ib, out, mg⟩ st1 ⟨l1, e, so, b1, b2, b3, b4, b5⟩
    exfalso
    dsimp only at b1 b2 b3 b4 b5
    rw [Nat.zero_max] at b5
    omega
  · rintro ⟨r, ia, ib, out, mg⟩ st1 ⟨l1, o, e, so⟩
    dsimp only at e
    subst e
    exact wpS_pure (h _ _ so l1)
end
open PySem PyProof.Rows
section
variable {M : Model} {A : Around} {E : Value → Shared → Prop} {s : Shared} {S : Keyed → Prop} {κ : SortKind} {n : Nat} {P : Array (Nat × Nat × Nat)}
structure Gs (S : Keyed → Prop) (κ : SortKind) (n : Nat) (P : Array (Nat × Nat × Nat)) (st : SortSt) : Prop where
  k : kindOf st = κ
  f : failedOf st = none
  z : (arrOf st).size = n
  a : Allin S (arrOf st)
  p : pendingOf st = P
theorem lt_ok (hc : Cmp M A E s S κ) {st : SortSt} {i j : Nat} {Q : Option Bool → SortSt → Prop} (G : Gs S κ n P st) (hi : i < n) (hj : j < n) (h : ∀ b, Q (some b) st) : wpS M A E s (ltAt' i j) Q st := by
  have z := G.z
  refine wpS_bind (wpS_get ?_)
  have hi' : i < (arrOf st).size := by omega
  have hj' : j < (arrOf st).size := by omega
  refine wpS_bind (elem_ok hi' (wpS_bind (elem_ok hj' ?_)))
  exact hc _ _ _ _ (G.a.at _) (G.a.at _) G.k h
theorem Allin.perm {a b : Array Keyed} (h : Allin S a) (p : b.Perm a) : Allin S b := fun x hx => h x (p.mem_iff.mp hx)
theorem rev_ok {st : SortSt} {i j : Nat} {Q : Unit → SortSt → Prop} (G : Gs S κ n P st) (h : ∀ st', Gs S κ n P st' → Q () st') : wpS M A E s (reverseSlice' i j) Q st :=
  wpS_modify (h _ ⟨G.k, G.f, (mirror_size _ _ _ _).trans G.z, G.a.perm (mirror_perm _ _ _ _), G.p⟩)
theorem down_ok {st : SortSt} {i j : Nat} {Q : Unit → SortSt → Prop} (G : Gs S κ n P st) (h : ∀ st', Gs S κ n P st' → Q () st') : wpS M A E s (moveDown' i j) Q st :=
  wpS_modify (h _ ⟨G.k, G.f, (bubble_size _ _ _).trans G.z, G.a.perm (bubble_perm _ _ _), G.p⟩)
abbrev C2 := Option (Option Nat) × Nat
abbrev C3 := Option (Option Nat) × Nat × Nat
theorem asc_ok (hc : Cmp M A E s S κ) {st : SortSt} {lo nr m : Nat} {Q : Option Nat → SortSt → Prop} (G : Gs S κ n P st) (h0 : 1 ≤ m) (h1 : m ≤ nr) (hl : lo + nr ≤ n) (h : ∀ k st', 1 ≤ k → k ≤ nr → Gs S κ n P st' → Q (some k) st')
    {f : Nat → C2 → StateT SortSt Sem (ForInStep C2)} {g : C2 → StateT SortSt Sem (Option Nat)}
    (hf : ∀ i c, f i c = (ltAt' (lo + c.2) (lo + c.2 - 1) >>= fun x => match x with
      | some b => if b = true then pure (ForInStep.done (none, c.2)) else pure (ForInStep.yield (none, c.2 + 1))
      | _ => pure (ForInStep.done (some none, c.2)))) (hg : ∀ k, g (none, k) = pure (some k)) : wpS M A E s (forIn [m:nr] ((none, m) : C2) f >>= g) Q st := by
  refine wpS_bind (wpS_mono (Q := fun (c : C2) st' => Gs S κ n P st' ∧ c.1 = none ∧ 1 ≤ c.2 ∧ c.2 ≤ nr) (wpS_forRange (fun i (c : C2) st' => Gs S κ n P st' ∧ c.1 = none ∧ 1 ≤ c.2 ∧ c.2 ≤ i) ?_ (fun c st' q => ⟨q.1, q.2.1, q.2.2.1, by have := q.2.2.2; omega⟩) ⟨G, rfl, h0, Nat.le_refl _⟩) ?_)
  · rintro i ⟨r, k⟩ st1 _ _ ⟨G1, e, k1, k2⟩
    dsimp only at e k1 k2
    subst e
    rw [hf]
    refine wpS_bind (lt_ok hc G1 (by (try dsimp only); omega) (by (try dsimp only); omega) fun b => ?_)
    cases b with
    | true => exact wpS_pure ⟨G1, rfl, k1, by (try dsimp only); omega⟩
    | false => exact wpS_pure ⟨G1, rfl, by (try dsimp only); omega, by (try dsimp only); omega⟩
  · rintro ⟨r, k⟩ st1 ⟨G1, e, k1, k2⟩
    dsimp only at e k1 k2
    subst e
    rw [hg]
    exact wpS_pure (h _ _ k1 k2 G1)
theorem count_ok (hc : Cmp M A E s S κ) {st : SortSt} {lo nr : Nat} {Q : Option Nat → SortSt → Prop} (G : Gs S κ n P st) (h0 : 1 ≤ nr) (hl : lo + nr ≤ n) (h : ∀ k st', 1 ≤ k → k ≤ nr → Gs S κ n P st' → Q (some k) st') : wpS M A E s (countRun' lo nr) Q st := by
  refine wpS_bind (wpS_mono (Q := fun (c : C2) st' => Gs S κ n P st' ∧ c.1 = none ∧ 1 ≤ c.2 ∧ c.2 ≤ nr) (wpS_forRange (fun i (c : C2) st' => Gs S κ n P st' ∧ c.1 = none ∧ 1 ≤ c.2 ∧ c.2 ≤ i) ?_ (fun c st' q => ⟨q.1, q.2.1, q.2.2.1, by have := q.2.2.2; omega⟩) ⟨G, rfl, Nat.le_refl _, Nat.le_refl _⟩) ?_)
  · rintro i ⟨r, k⟩ st1 _ _ ⟨G1, e, k1, k2⟩
    dsimp only at e k1 k2
    subst e
    refine wpS_bind (lt_ok hc G1 (by (try dsimp only); omega) (by (try dsimp only); omega) fun b => ?_)
    cases b with
    | true => exact wpS_pure ⟨G1, rfl, k1, by (try dsimp only); omega⟩
    | false => exact wpS_pure ⟨G1, rfl, by (try dsimp only); omega, by (try dsimp only); omega⟩
  rintro ⟨r, k⟩ st1 ⟨G1, e, k1, k2⟩
  dsimp only at e k1 k2
  subst e
  refine s_ite (fun g => ?_) (fun g => ?_)
  · exact wpS_pure (h _ _ k1 k2 G1)
  have g := beqF g
  (try dsimp only at g)
  refine s_ite (fun g1 => ?_) (fun g1 => ?_)
  · refine wpS_bind (lt_ok hc G1 (by (try dsimp only); omega) (by (try dsimp only); omega) fun b => ?_)
    cases b with
    | true => exact wpS_pure (h _ _ k1 k2 G1)
    | false =>
      refine wpS_bind (rev_ok G1 fun st2 G2 => ?_)
      refine wpS_bind (rule_ok ?_)
      refine wpS_bind (wpS_mono (Q := fun (c : C3) st' => Gs S κ n P st' ∧ c.1 = none ∧ 1 ≤ c.2.1 ∧ c.2.1 ≤ nr) (wpS_forRange (fun i (c : C3) st' => Gs S κ n P st' ∧ c.1 = none ∧ 1 ≤ c.2.1 ∧ c.2.1 ≤ i) ?_ (fun c st' q => ⟨q.1, q.2.1, q.2.2.1, by have := q.2.2.2; omega⟩) ⟨G2, rfl, by (try dsimp only); omega, Nat.le_refl _⟩) ?_)
      · rintro i ⟨r, k, q⟩ st3 _ _ ⟨G3, e, k3, k4⟩
        dsimp only at e k3 k4
        subst e
        refine wpS_bind (lt_ok hc G3 (by (try dsimp only); omega) (by (try dsimp only); omega) fun b => ?_)
        cases b with
        | true =>
          refine s_ite (fun _ => ?_) (fun g => absurd rfl g)
          refine s_ite (fun _ => ?_) (fun _ => ?_)
          · refine wpS_bind (rev_ok G3 fun st4 G4 => ?_)
            exact wpS_pure ⟨G4, rfl, by (try dsimp only); omega, by (try dsimp only); omega⟩
          · exact wpS_pure ⟨G3, rfl, by (try dsimp only); omega, by (try dsimp only); omega⟩
        | false =>
          refine wpS_bind (lt_ok hc G3 (by (try dsimp only); omega) (by (try dsimp only); omega) fun b => ?_)
          cases b with
          | true => exact wpS_pure ⟨G3, rfl, k3, by (try dsimp only); omega⟩
          | false => exact wpS_pure ⟨G3, rfl, by (try dsimp only); omega, by (try dsimp only); omega⟩
      · rintro ⟨r, k, q⟩ st3 ⟨G3, e, k3, k4⟩
        dsimp only at e k3 k4
        subst e
        refine s_ite (fun _ => ?_) (fun _ => ?_)
        · refine wpS_bind (rev_ok G3 fun st4 G4 => ?_)
          refine wpS_bind (rev_ok G4 fun st9 G9 => ?_)
          refine asc_ok hc G9 (by (try dsimp only); omega) (by (try dsimp only); omega) hl h (fun i c => rfl) (fun k => rfl)
        · skip
          refine wpS_bind (rev_ok G3 fun st9 G9 => ?_)
          refine asc_ok hc G9 (by (try dsimp only); omega) (by (try dsimp only); omega) hl h (fun i c => rfl) (fun k => rfl)
  · skip
    refine wpS_bind (rule_ok ?_)
    refine wpS_bind (wpS_mono (Q := fun (c : C3) st' => Gs S κ n P st' ∧ c.1 = none ∧ 1 ≤ c.2.1 ∧ c.2.1 ≤ nr) (wpS_forRange (fun i (c : C3) st' => Gs S κ n P st' ∧ c.1 = none ∧ 1 ≤ c.2.1 ∧ c.2.1 ≤ i) ?_ (fun c st' q => ⟨q.1, q.2.1, q.2.2.1, by have := q.2.2.2; omega⟩) ⟨G1, rfl, by (try dsimp only); omega, Nat.le_refl _⟩) ?_)
    · rintro i ⟨r, k, q⟩ st3 _ _ ⟨G3, e, k3, k4⟩
      dsimp only at e k3 k4
      subst e
      refine wpS_bind (lt_ok hc G3 (by (try dsimp only); omega) (by (try dsimp only); omega) fun b => ?_)
      cases b with
      | true =>
        refine s_ite (fun _ => ?_) (fun g => absurd rfl g)
        refine s_ite (fun _ => ?_) (fun _ => ?_)
        · refine wpS_bind (rev_ok G3 fun st4 G4 => ?_)
          exact wpS_pure ⟨G4, rfl, by (try dsimp only); omega, by (try dsimp only); omega⟩
        · exact wpS_pure ⟨G3, rfl, by (try dsimp only); omega, by (try dsimp only); omega⟩
      | false =>
        refine wpS_bind (lt_ok hc G3 (by (try dsimp only); omega) (by (try dsimp only); omega) fun b => ?_)
        cases b with
        | true => exact wpS_pure ⟨G3, rfl, k3, by (try dsimp only); omega⟩
        | false => exact wpS_pure ⟨G3, rfl, by (try dsimp only); omega, by (try dsimp only); omega⟩
    · rintro ⟨r, k, q⟩ st3 ⟨G3, e, k3, k4⟩
      dsimp only at e k3 k4
      subst e
      refine s_ite (fun _ => ?_) (fun _ => ?_)
      · refine wpS_bind (rev_ok G3 fun st4 G4 => ?_)
        refine wpS_bind (rev_ok G4 fun st9 G9 => ?_)
        refine asc_ok hc G9 (by (try dsimp only); omega) (by (try dsimp only); omega) hl h (fun i c => rfl) (fun k => rfl)
      · skip
        refine wpS_bind (rev_ok G3 fun st9 G9 => ?_)
        refine asc_ok hc G9 (by (try dsimp only); omega) (by (try dsimp only); omega) hl h (fun i c => rfl) (fun k => rfl)
theorem bin_ok (hc : Cmp M A E s S κ) {st : SortSt} {lo m ok : Nat} {Q : Bool → SortSt → Prop} (G : Gs S κ n P st) (hl : lo + m ≤ n) (h : ∀ st', Gs S κ n P st' → Q true st') : wpS M A E s (binarySort' lo m ok) Q st := by
  refine wpS_bind (wpS_mono (Q := fun (c : Option Bool × Unit) st' => Gs S κ n P st' ∧ c.1 = none) (wpS_forRange (fun i (c : Option Bool × Unit) st' => Gs S κ n P st' ∧ c.1 = none) ?_ (fun c st' q => q) ⟨G, rfl⟩) ?_)
  · rintro k ⟨r, _⟩ st1 _ hk ⟨G1, e⟩
    refine wpS_bind (wpS_mono (Q := fun (c : Option Bool × Nat × Nat) st' => Gs S κ n P st' ∧ c.1 = none) (wpS_forRange (fun i (c : Option Bool × Nat × Nat) st' => Gs S κ n P st' ∧ c.1 = none ∧ c.2.2 ≤ k) ?_ (fun c st' q => ⟨q.1, q.2.1⟩) ⟨G1, rfl, Nat.le_refl _⟩) ?_)
    · rintro i ⟨r, x, y⟩ st2 _ _ ⟨G2, e, hy⟩
      dsimp only at e hy
      subst e
      refine s_ite (fun g => ?_) (fun g => ?_)
      · exact wpS_pure ⟨G2, rfl⟩
      · dsimp only at g
        refine wpS_bind (lt_ok hc G2 (by (try dsimp only); omega) (by (try dsimp only); omega) fun b => ?_)
        cases b with
        | true => exact wpS_pure ⟨G2, rfl, by (try dsimp only); omega⟩
        | false => exact wpS_pure ⟨G2, rfl, hy⟩
    · rintro ⟨r, x, y⟩ st2 ⟨G2, e⟩
      dsimp only at e
      subst e
      refine wpS_bind (down_ok G2 fun st3 G3 => ?_)
      exact wpS_pure ⟨G3, rfl⟩
  · rintro ⟨r, _⟩ st1 ⟨G1, e⟩
    dsimp only at e
    subst e
    exact wpS_pure (h _ G1)
end
open PySem PyProof.Rows
abbrev Rn := Nat × Nat × Nat
def Ch : Nat → List Rn → Nat → Prop
  | a, [], b => a = b
  | a, q :: r, b => q.1 = a ∧ 1 ≤ q.2.1 ∧ Ch (a + q.2.1) r b
theorem Ch.le : ∀ {l : List Rn} {a b : Nat}, Ch a l b → a ≤ b
  | [], _, _, h => Nat.le_of_eq h
  | q :: r, a, b, h => by have := Ch.le h.2.2; omega
theorem Ch.push : ∀ {l : List Rn} {a b : Nat} (m p : Nat), Ch a l b → 1 ≤ m → Ch a (l ++ [(b, m, p)]) (b + m)
  | [], a, b, m, p, h, hm => by cases h; exact ⟨rfl, hm, rfl⟩
  | q :: r, a, b, m, p, h, hm => ⟨h.1, h.2.1, Ch.push m p h.2.2 hm⟩
theorem Ch.two : ∀ {l : List Rn} {a b i sa na p sb nb q : Nat}, Ch a l b → l[i]? = some (sa, na, p) → l[i + 1]? = some (sb, nb, q) →
    sb = sa + na ∧ 1 ≤ na ∧ 1 ≤ nb ∧ sb + nb ≤ b ∧ Ch a ((l.set i (sa, na + nb, p)).eraseIdx (i + 1)) b
  | [], _, _, _, _, _, _, _, _, _, _, e, _ => by simp at e
  | x :: r, a, b, 0, sa, na, p, sb, nb, q, h, e1, e2 => by
    simp at e1
    subst e1
    cases r with
    | nil => simp at e2
    | cons y r =>
      simp at e2
      subst e2
      obtain ⟨h1, h2, h3, h4, h5⟩ := h
      have := h5.le
      dsimp only at h1 h2 h3 h4 h5 this
      refine ⟨by omega, h2, h4, by omega, ?_⟩
      show Ch a ((sa, na + nb, p) :: r) b
      exact ⟨h1, by show 1 ≤ na + nb; omega, by show Ch (a + (na + nb)) r b; rw [← Nat.add_assoc]; exact h5⟩
  | x :: r, a, b, i + 1, sa, na, p, sb, nb, q, h, e1, e2 => by
    obtain ⟨a1, a2, a3, a4, a5⟩ := Ch.two (i := i) h.2.2 (by simpa using e1) (by simpa using e2)
    exact ⟨a1, a2, a3, a4, h.1, h.2.1, a5⟩
theorem Ch.pw : ∀ {l : List Rn} {a b : Nat} (i w : Nat), Ch a l b → Ch a (l.modify i fun x => (x.1, x.2.1, w)) b
  | [], _, _, i, w, h => by simpa using h
  | q :: r, a, b, 0, w, h => ⟨h.1, h.2.1, h.2.2⟩
  | q :: r, a, b, i + 1, w, h => ⟨h.1, h.2.1, Ch.pw i w h.2.2⟩
section
variable {M : Model} {A : Around} {E : Value → Shared → Prop} {s : Shared} {S : Keyed → Prop} {κ : SortKind} {n : Nat} {P : Array Rn}
theorem set_ok {st st' : SortSt} {Q : PUnit → SortSt → Prop} (h : Q ⟨⟩ st') : wpS M A E s (set st' : StateT SortSt Sem PUnit) Q st := by
  unfold wpS
  rw [StateT.run_set]
  exact wpAny_pure ⟨rfl, h⟩
theorem Allin.setI {a : Array Keyed} {i : Nat} {x : Keyed} (h : Allin S a) (hx : S x) : Allin S (a.setIfInBounds i x) := fun y hy => by
  rw [← Array.mem_toList_iff, Array.toList_setIfInBounds] at hy
  rcases List.mem_or_eq_of_mem_set hy with z | z
  · exact h y (Array.mem_toList_iff.mp z)
  · subst z; exact hx
theorem fold_ok {sa : Nat} : ∀ (l : List (Keyed × Nat)) (a : Array Keyed), Allin S a → (∀ q ∈ l, S q.1) → Allin S (l.foldl (fun a q => a.setIfInBounds (sa + q.2) q.1) a) ∧ (l.foldl (fun a q => a.setIfInBounds (sa + q.2) q.1) a).size = a.size
  | [], a, h, _ => ⟨h, rfl⟩
  | q :: l, a, h, g => by
    obtain ⟨h1, h2⟩ := fold_ok (sa := sa) l (a.setIfInBounds (sa + q.2) q.1) (h.setI (g q (by simp))) fun z hz => g z (by simp [hz])
    exact ⟨h1, h2.trans (by simp)⟩
theorem merge_ok (hc : Cmp M A E s S κ) {st : SortSt} {i b : Nat} {Q : Bool → SortSt → Prop} (G : Gs S κ n P st) (hp : Ch 0 P.toList b) (hb : b ≤ n) (hi : i + 1 < P.size)
    (h : ∀ st' P', Gs S κ n P' st' → Ch 0 P'.toList b → Q true st') : wpS M A E s (mergeAt' i) Q st := by
  obtain ⟨sa, na, p, e1⟩ : ∃ sa na p, P[i]? = some (sa, na, p) := ⟨_, _, _, Array.getElem?_eq_getElem (by omega)⟩
  obtain ⟨sb, nb, q, e2⟩ : ∃ sb nb q, P[i + 1]? = some (sb, nb, q) := ⟨_, _, _, Array.getElem?_eq_getElem hi⟩
  obtain ⟨a1, a2, a3, a4, a5⟩ := hp.two (i := i) (by rw [Array.getElem?_toList]; exact e1) (by rw [Array.getElem?_toList]; exact e2)
  let P' : Array Rn := (P.setIfInBounds i (sa, na + nb, p)).eraseIdxIfInBounds (i + 1)
  have hp' : Ch 0 P'.toList b := by
    show Ch 0 ((P.setIfInBounds i (sa, na + nb, p)).eraseIdxIfInBounds (i + 1)).toList b
    rw [Array.toList_eraseIdxIfInBounds, Array.toList_setIfInBounds]
    exact a5
  have z := G.z
  have e1' : (pendingOf st)[i]? = some (sa, na, p) := by rw [G.p]; exact e1
  have e2' : (pendingOf st)[i + 1]? = some (sb, nb, q) := by rw [G.p]; exact e2
  let st1 : SortSt := SortSt.mk' (kindOf st) (arrOf st) (((pendingOf st).setIfInBounds i (sa, na + nb, p)).eraseIdxIfInBounds (i + 1)) (gallopOf st) (failedOf st)
  have G1 : Gs S κ n P' st1 := ⟨G.k, G.f, G.z, G.a, by show ((pendingOf st).setIfInBounds i (sa, na + nb, p)).eraseIdxIfInBounds (i + 1) = _; rw [G.p]⟩
  have fin : ∀ (x : Nat) (merged : Array Keyed) (st2 : SortSt), Allin S merged → Al st1 st2 → wpS M A E s ((modify fun z => SortSt.mk' (kindOf z) (merged.toList.zipIdx.foldl (fun a q => a.setIfInBounds (x + q.2) q.1) (arrOf z)) (pendingOf z) (gallopOf z) (failedOf z)) >>= fun (_ : PUnit) => get >>= fun (z : SortSt) => pure (failedOf z).isNone) Q st2 := fun x merged st2 hm l => by
    refine wpS_bind (wpS_modify ?_)
    refine wpS_bind (wpS_get ?_)
    refine wpS_pure ?_
    have ar : arrOf st2 = arrOf st := l.a
    have fl : failedOf st2 = none := l.f.trans G.f
    obtain ⟨f1, f2⟩ := fold_ok (S := S) (sa := x) merged.toList.zipIdx (arrOf st2) (by rw [ar]; exact G.a) fun q hq => by
      have := List.fst_mem_of_mem_zipIdx hq
      exact hm _ (Array.mem_toList_iff.mp this)
    show Q (failedOf st2).isNone _
    rw [fl]
    exact h _ P' ⟨l.k.trans G.k, rfl, f2.trans (by rw [ar]; exact G.z), f1, l.p.trans G1.p⟩ hp'
  refine wpS_bind (wpS_get ?_)
  rw [e1', e2']
  refine wpS_bind (set_ok (st' := st1) ?_)
  have hsb : sb < (arrOf st).size := by omega
  refine wpS_bind (elem_ok hsb ?_)
  refine wpS_bind (gallop_ok (a := arrOf st) hc (G.a.at hsb) G.a G1.k (by omega) (by omega) fun k hk => ?_)
  refine s_ite (fun g => ?_) (fun g => ?_)
  · exact wpS_pure (h _ P' G1 hp')
  have g := beqF g
  (try dsimp only at g)
  have hx : sa + k + (na - k) - 1 < (arrOf st).size := by omega
  refine wpS_bind (elem_ok hx ?_)
  refine wpS_bind (gallop_ok (a := arrOf st) hc (G.a.at hx) G.a G1.k (by omega) (by omega) fun k2 hk2 => ?_)
  refine s_ite (fun g => ?_) (fun g => ?_)
  · exact wpS_pure (h _ P' G1 hp')
  have g := beqF g
  (try dsimp only at g)
  have y1 : 1 ≤ ((arrOf st).extract (sa + k) sb).size := by rw [Array.size_extract]; omega
  have y2 : 1 ≤ ((arrOf st).extract sb (sb + k2)).size := by rw [Array.size_extract]; omega
  refine s_ite (fun _ => ?_) (fun _ => ?_)
  · refine wpS_bind (mergeLo_ok hc (G.a.ext _ _) (G.a.ext _ _) G1.k y1 y2 fun out st2 so l => ?_)
    exact fin _ out st2 so l
  · refine wpS_bind (mergeHi_ok hc (G.a.ext _ _) (G.a.ext _ _) G1.k y1 y2 fun out st2 so l => ?_)
    exact fin _ out st2 so l
end
open PySem PyProof.Rows
section
variable {M : Model} {A : Around} {E : Value → Shared → Prop} {s : Shared} {S : Keyed → Prop} {κ : SortKind} {n : Nat}
def Rg (S : Keyed → Prop) (κ : SortKind) (n b : Nat) (st : SortSt) : Prop := ∃ P, Gs S κ n P st ∧ Ch 0 P.toList b
theorem push_ok {st : SortSt} {b m : Nat} {Q : PUnit → SortSt → Prop} (R : Rg S κ n b st) (hm : 1 ≤ m) (h : ∀ st', Rg S κ n (b + m) st' → Q ⟨⟩ st') : wpS M A E s (modify fun z => SortSt.mk' (kindOf z) (arrOf z) ((pendingOf z).push (b, m, 0)) (gallopOf z) (failedOf z) : StateT SortSt Sem PUnit) Q st := by
  obtain ⟨P, G, c⟩ := R
  refine wpS_modify (h _ ⟨P.push (b, m, 0), ⟨G.k, G.f, G.z, G.a, by show (pendingOf st).push _ = _; rw [G.p]⟩, ?_⟩)
  rw [Array.toList_push]
  exact c.push m 0 hm
theorem pw_ok {st : SortSt} {b w : Nat} {Q : PUnit → SortSt → Prop} (R : Rg S κ n b st) (h : ∀ st', Rg S κ n b st' → Q ⟨⟩ st') : wpS M A E s (modify fun z => SortSt.mk' (kindOf z) (arrOf z) ((pendingOf z).modify ((pendingOf z).size - 1) fun x => (x.1, x.2.1, w)) (gallopOf z) (failedOf z) : StateT SortSt Sem PUnit) Q st := by
  obtain ⟨P, G, c⟩ := R
  refine wpS_modify (h _ ⟨P.modify (P.size - 1) fun x => (x.1, x.2.1, w), ⟨G.k, G.f, G.z, G.a, congrArg (fun (p : Array Rn) => p.modify (p.size - 1) fun x => (x.1, x.2.1, w)) G.p⟩, ?_⟩)
  rw [Array.toList_modify]
  exact c.pw _ _
theorem back_lt {c : Prop} [Decidable c] {m : Nat} (h : ¬ m ≤ 1) : (if c then m - 2 - 1 else m - 2) + 1 < m := by
  split <;> omega
abbrev O1 := Option Unit × Unit
abbrev O2 := Option Unit × Nat
theorem sort_ok (hc : Cmp M A E s S κ) {st : SortSt} {Q : Unit → SortSt → Prop} (G : Gs S κ n #[] st) (h : ∀ st', (∃ P, Gs S κ n P st') → Q () st') : wpS M A E s sortRuns' Q st := by
  refine wpS_bind (wpS_get ?_)
  rw [G.z]
  refine wpS_bind (wpS_mono (Q := fun (c : O2) st' => c.1 = none ∧ ∃ b, b ≤ n ∧ Rg S κ n b st') (wpS_forRange (fun i (c : O2) st' => c.1 = none ∧ c.2 ≤ n ∧ Rg S κ n c.2 st') ?_ (fun c st' q => ⟨q.1, c.2, q.2.1, q.2.2⟩) ⟨rfl, Nat.zero_le _, #[], G, rfl⟩) ?_)
  · rintro i ⟨r, lo⟩ st1 _ _ ⟨e, hl, R⟩
    dsimp only at e hl R
    subst e
    refine s_ite (fun g => ?_) (fun g => ?_)
    · exact wpS_pure ⟨rfl, lo, hl, R⟩
    dsimp only at g
    obtain ⟨P, G1, c1⟩ := R
    refine wpS_bind (count_ok hc G1 (by dsimp only; omega) (by dsimp only; omega) fun k st2 k1 k2 G2 => ?_)
    dsimp only at k2
    refine s_ite (fun g1 => ?_) (fun g1 => ?_)
    · refine wpS_bind (rule_ok ?_)
      refine wpS_bind (bin_ok hc G2 (by dsimp only; omega) fun st3 G3 => ?_)
      refine s_ite (fun g => by simp at g) (fun _ => ?_)
      (try dsimp only at g1)
      have m1 : 1 ≤ min (n - lo) (minRun' n n 0) := by
        have : k < minRun' n n 0 := g1
        omega
      have m2 : lo + min (n - lo) (minRun' n n 0) ≤ n := by omega
      have R : Rg S κ n lo st3 := ⟨P, G3, c1⟩
      refine wpS_bind (wpS_get ?_)
      cases hx : (pendingOf st3).back? with
      | some x =>
        obtain ⟨x1, x2, x3⟩ := x
        (try rw [hx])
        refine wpS_bind (wpS_mono (Q := fun (c : O1) st' => c.1 = none ∧ Rg S κ n lo st') (wpS_forRange (fun i (c : O1) st' => c.1 = none ∧ Rg S κ n lo st') ?_ (fun c st' q => q) ⟨rfl, R⟩) ?_)
        · rintro i ⟨r, _⟩ st4 _ _ ⟨e, P4, G4, c4⟩
          refine wpS_bind (wpS_get ?_)
          dsimp only
          cases hy : (if (pendingOf st4).size > 1 then (pendingOf st4)[(pendingOf st4).size - 2]? else none) with
          | some y =>
            obtain ⟨y1, y2, y3⟩ := y
            (try rw [hy])
            refine s_ite (fun _ => ?_) (fun _ => ?_)
            · exact wpS_pure ⟨rfl, P4, G4, c4⟩
            · have sz : 1 < (pendingOf st4).size := by
                split at hy
                · assumption
                · cases hy
              rw [G4.p] at sz
              have s2 : (pendingOf st4).size - 2 + 1 < P4.size := by rw [G4.p]; omega
              refine wpS_bind (merge_ok hc G4 c4 hl s2 fun st5 P5 G5 c5 => ?_)
              exact wpS_pure ⟨rfl, P5, G5, c5⟩
          | none =>
            (try rw [hy])
            exact wpS_pure ⟨rfl, P4, G4, c4⟩
        · rintro ⟨r, _⟩ st4 ⟨e, R4⟩
          dsimp only at e
          subst e
          refine wpS_bind (pw_ok R4 fun st5 R5 => ?_)
          refine wpS_bind (push_ok R5 m1 fun st6 R6 => ?_)
          exact wpS_pure ⟨rfl, m2, R6⟩
      | none =>
        (try rw [hx])
        refine wpS_bind (push_ok R m1 fun st6 R6 => ?_)
        exact wpS_pure ⟨rfl, m2, R6⟩
    · have R : Rg S κ n lo st2 := ⟨P, G2, c1⟩
      refine wpS_bind (wpS_get ?_)
      have m1 := k1
      have m2 : lo + k ≤ n := by omega
      cases hx : (pendingOf st2).back? with
      | some x =>
        obtain ⟨x1, x2, x3⟩ := x
        (try rw [hx])
        refine wpS_bind (wpS_mono (Q := fun (c : O1) st' => c.1 = none ∧ Rg S κ n lo st') (wpS_forRange (fun i (c : O1) st' => c.1 = none ∧ Rg S κ n lo st') ?_ (fun c st' q => q) ⟨rfl, R⟩) ?_)
        · rintro i ⟨r, _⟩ st4 _ _ ⟨e, P4, G4, c4⟩
          refine wpS_bind (wpS_get ?_)
          dsimp only
          cases hy : (if (pendingOf st4).size > 1 then (pendingOf st4)[(pendingOf st4).size - 2]? else none) with
          | some y =>
            obtain ⟨y1, y2, y3⟩ := y
            (try rw [hy])
            refine s_ite (fun _ => ?_) (fun _ => ?_)
            · exact wpS_pure ⟨rfl, P4, G4, c4⟩
            · have sz : 1 < (pendingOf st4).size := by
                split at hy
                · assumption
                · cases hy
              rw [G4.p] at sz
              have s2 : (pendingOf st4).size - 2 + 1 < P4.size := by rw [G4.p]; omega
              refine wpS_bind (merge_ok hc G4 c4 hl s2 fun st5 P5 G5 c5 => ?_)
              exact wpS_pure ⟨rfl, P5, G5, c5⟩
          | none =>
            (try rw [hy])
            exact wpS_pure ⟨rfl, P4, G4, c4⟩
        · rintro ⟨r, _⟩ st4 ⟨e, R4⟩
          dsimp only at e
          subst e
          refine wpS_bind (pw_ok R4 fun st5 R5 => ?_)
          refine wpS_bind (push_ok R5 m1 fun st6 R6 => ?_)
          exact wpS_pure ⟨rfl, m2, R6⟩
      | none =>
        (try rw [hx])
        refine wpS_bind (push_ok R m1 fun st6 R6 => ?_)
        exact wpS_pure ⟨rfl, m2, R6⟩
  · rintro ⟨r, lo⟩ st1 ⟨e, b, hb, R⟩
    dsimp only at e
    subst e
    refine wpS_bind (wpS_mono (Q := fun (c : O1) st' => c.1 = none ∧ Rg S κ n b st') (wpS_forRange (fun i (c : O1) st' => c.1 = none ∧ Rg S κ n b st') ?_ (fun c st' q => q) ⟨rfl, R⟩) ?_)
    · rintro i ⟨r, _⟩ st2 _ _ ⟨e, P, G2, c2⟩
      refine wpS_bind (wpS_get ?_)
      refine s_ite (fun g => ?_) (fun g => ?_)
      · exact wpS_pure ⟨rfl, P, G2, c2⟩
      · have g : ¬ (pendingOf st2).size ≤ 1 := g
        rw [G2.p] at g
        have two : ∀ i : Nat, i + 1 < P.size → wpS M A E s (mergeAt' i) (fun w st' => w = true ∧ Rg S κ n b st') st2 := fun i hi => merge_ok hc G2 c2 hb hi fun st' P' G' c' => ⟨rfl, P', G', c'⟩
        refine wpS_bind (wpS_mono (two _ ?_) ?_)
        · rw [← G2.p] at g ⊢
          exact back_lt g
        · rintro w st3 ⟨rfl, R3⟩
          exact wpS_pure ⟨rfl, R3⟩
    · rintro ⟨r, _⟩ st2 ⟨e, P, G2, c2⟩
      dsimp only at e
      subst e
      exact wpS_pure (h _ ⟨P, G2⟩)
end
open PySem PyProof.Rows
section
variable {prog : Program} {w : World} {A : Around} {E : Value → Shared → Prop} {s : Shared}
def Lies (h : Heap) (a : Addr) (h' : Heap) : Prop := ∀ b o, b ≠ a → h.get? b = some o → h'.get? b = some o
def Own (vs : List Value) (x : Keyed) : Prop := x.2 ∈ vs ∧ x.1 = x.2
theorem own_all (vs : List Value) : Allin (Own vs) (vs.toArray.zip vs.toArray) := fun x hx => by
  have h : x ∈ vs.zip vs := by
    have := Array.mem_toList_iff.mpr hx
    simpa using this
  have := mem_zip_self h
  exact ⟨this.1 ▸ this.2, this.1⟩
theorem own_out {vs : List Value} {xs : Array Keyed} (h : Allin (Own vs) xs) : ∀ v ∈ xs.map (·.2), v ∈ vs := fun v hv => by
  obtain ⟨x, hx, rfl⟩ := Array.mem_map.mp hv
  exact (h x hx).1
theorem srt_tree {a : Addr} {vs : List Value} {n : Nat} {κ : SortKind} {P : Fin → Shared → Prop} (ho : s.heap.get? a = some (seqObj "list" vs.toArray n)) (hsz : vs.length ≤ 1000)
    (hk : ∀ s' : Shared, Lies s.heap a s'.heap → 2 ≤ vs.length → ∀ Q : SortKind → Shared → Prop, Q κ s' → wpAny (model prog w) A (keyKind' vs.toArray) Q E s')
    (hm : ∀ s' : Shared, Lies s.heap a s'.heap → Cmp (model prog w) A E s' (Own vs) κ)
    (h : ∀ out : Array Value, out.size = vs.length → (∀ v ∈ out, v ∈ vs) → P (.done (.ret .none)) { s with heap := sortedHeap s.heap a vs out }) : wpAny (model prog w) A (Builtin.«list.sort» ⟨[.ref a], []⟩) P E s := by
  rw [list_sort_plain]
  have la := Heap.lt_size ho
  have z : vs.toArray.size = vs.length := by simp
  refine wpAny_bind (listItems_at ho rfl (wpAny_bind (listUpdate_at ho rfl ?_ (hsz := by rw [z, sizeLine_eq]; omega))))
  have ⟨e, oe⟩ : ∃ e, (s.heap.update a (Obj.mapSeq fun _ => #[])).get? a = some (seqObj "list" #[] e) := ⟨_, get?_update_seq ho fun _ => #[]⟩
  refine wpAny_bind (seqEpoch_at oe rfl (wpAny_bind (wpAny_newTuple (wpAny_bind (wpAny_newList (wpAny_holding ?_))))))
  let h2 : Heap := ((s.heap.update a (Obj.mapSeq fun _ => #[])).push (seqObj "tuple" vs.toArray 0)).push (seqObj "list" #[] 0)
  have ga : h2.get? a = some (seqObj "list" #[] e) := Heap.get?_push_of_some _ (Heap.get?_push_of_some _ oe)
  have lies : Lies s.heap a h2 := fun b o nb eb => by
    refine Heap.get?_push_of_some _ (Heap.get?_push_of_some _ ?_)
    rw [Heap.get?_update_ne _ _ _ _ nb]
    exact eb
  show wpAny (model prog w) A _ P E { s with heap := h2 }
  by_cases few : vs.toArray.size < 2
  · rw [if_pos few, if_pos few]
    refine wpAny_bind (wpAny_pure ?_)
    dsimp only
    rw [StateT.run_pure]
    refine wpAny_bind (wpAny_pure ?_)
    let st0 : SortSt := SortSt.mk' general' (vs.toArray.zip vs.toArray) #[] 7 none
    have z0 : (arrOf st0).size = vs.length := by show (vs.toArray.zip vs.toArray).size = _; simp
    have a0 : Allin (Own vs) (arrOf st0) := own_all vs
    dsimp only
    have zz : ((arrOf st0).map (·.2)).size = vs.length := by rw [Array.size_map]; exact z0
    refine wpAny_bind (seqEpoch_at ga rfl (wpAny_bind (listUpdate_at ga rfl ?_ (hsz2 := by rw [show (Array.map (fun x => x.2) (arrOf st0)).size = vs.length from zz, sizeLine_eq]; omega))))
    (try rw [show failedOf st0 = none from rfl])
    simp only [if_false, bne_self_eq_false, Bool.false_eq_true]
    exact wpAny_pure (h _ zz (own_out a0))
  · rw [if_neg few, if_neg few]
    refine wpAny_bind (hk { s with heap := h2 } lies (by omega) _ ?_)
    have G : Gs (Own vs) κ vs.length #[] (SortSt.mk' κ (vs.toArray.zip vs.toArray) #[] 7 none) := ⟨rfl, rfl, by show (vs.toArray.zip vs.toArray).size = _; simp, own_all vs, rfl⟩
    refine wpAny_bind (wpAny_mono (sort_ok (hm { s with heap := h2 } lies) G (Q := fun _ st => ∃ P, Gs (Own vs) κ vs.length P st) fun st' q => q) ?_ fun _ _ x => x)
    rintro ⟨_, st'⟩ s' ⟨rfl, P', G'⟩
    dsimp only
    have zz : ((arrOf st').map (·.2)).size = vs.length := by rw [Array.size_map]; exact G'.z
    refine wpAny_bind (seqEpoch_at ga rfl (wpAny_bind (listUpdate_at ga rfl ?_ (hsz2 := by rw [show (Array.map (fun x => x.2) (arrOf st')).size = vs.length from zz, sizeLine_eq]; omega))))
    (try rw [show failedOf st' = none from G'.f])
    simp only [if_false, bne_self_eq_false, Bool.false_eq_true]
    exact wpAny_pure (h _ zz (own_out G'.a))
end
open PySem PyProof.Rows
section
variable {prog : Program} {w : World} {A : Around} {E : Value → Shared → Prop} {s : Shared}
def Stays (h h' : Heap) : Prop := ∀ b o, h.get? b = some o → h'.get? b = some o
theorem srt_call {l : Addr} {vs : List Value} {κ : SortKind} {Q : Value → Shared → Prop} (hl : s.heap.IsList l vs.toArray) (hsz : vs.length ≤ 1000)
    (hk : ∀ (A : Around) (E : Value → Shared → Prop) (s' : Shared), Stays s.heap s'.heap → 2 ≤ vs.length → ∀ Q : SortKind → Shared → Prop, Q κ s' → wpAny (model prog w) A (keyKind' vs.toArray) Q E s')
    (hm : ∀ (A : Around) (E : Value → Shared → Prop) (s' : Shared), Stays s.heap s'.heap → Cmp (model prog w) A E s' (Own vs) κ)
    (h : ∀ out : Array Value, out.size = vs.length → (∀ v ∈ out, v ∈ vs) → Q (.ref (s.heap.objs.size + 1)) { s with heap := sortedAll s.heap vs out }) : wpAny (model prog w) A (call (.builtin "sorted") [.ref l]) Q E s := by
  refine Calls.call_function_entry (kind_sorted) plain_sorted entry_sorted (args_sorted1 _) ?_
  unfold Builtin.«sorted»
  refine wpAny_bind (m := checkCount "sorted" 1 1 _) (wpAny_pure (wpAny_bind (collect_list hl ?_ (hsz := by rw [sizeLine_eq]; omega))))
  let h1 : Heap := (s.heap.push (seqObj "list" #[] 0)).update s.heap.objs.size (Obj.mapSeq (· ++ vs.toArray))
  have z1 : h1.objs.size = s.heap.objs.size + 1 := by show (Heap.update _ _ _).objs.size = _; rw [Heap.size_update, size_push']
  have at1 : (h1.push (seqObj "list" vs.toArray 0)).get? (s.heap.objs.size + 1) = some (seqObj "list" vs.toArray 0) := by rw [← z1]; exact Heap.get?_push_size _ rfl
  have st1 : Stays s.heap (h1.push (seqObj "list" vs.toArray 0)) := fun b o e => by
    refine Heap.get?_push_of_some _ ?_
    have lb := Heap.lt_size e
    show (Heap.update _ _ _).get? b = _
    rw [Heap.get?_update_ne _ _ _ _ (Nat.ne_of_lt lb)]
    exact Heap.get?_push_of_some _ e
  have st2 : ∀ h' : Heap, Lies (h1.push (seqObj "list" vs.toArray 0)) (s.heap.objs.size + 1) h' → Stays s.heap h' := fun h' hL b o e => hL b o (Nat.ne_of_lt (Nat.lt_succ_of_lt (Heap.lt_size e))) (st1 b o e)
  refine (wpAny_bind (wpAny_newList ?_))
  show wpAny _ _ _ _ _ { s with heap := h1.push (seqObj "list" vs.toArray 0) }
  have ez : ({ s with heap := h1 } : Shared).heap.objs.size = s.heap.objs.size + 1 := z1
  show wpAny _ _ (holding [Value.ref h1.objs.size] _ >>= _) _ _ _
  rw [z1]
  refine wpAny_bind (wpAny_holding (wpAny_call_entry slot_list_sort ⟨_, at1, rfl⟩ entry_list_sort (srt_tree at1 hsz (fun s' L => hk _ _ s' (st2 _ L)) (fun s' L => hm _ _ s' (st2 _ L)) fun out o1 o2 => ⟨_, rfl, ?_⟩) (args_list_sort _)))
  exact wpAny_pure ⟨_, rfl, h out o1 o2⟩
end
open PySem PyProof.Rows
section
variable {prog : Program} {w : World} {A : Around} {E : Value → Shared → Prop} {s : Shared} {S : Keyed → Prop} {κ : SortKind}
theorem cmp_of (h : ∀ x y : Keyed, S x → S y → ∀ (Q : Bool → Shared → Prop) (E' : Value → Shared → Prop), (∀ b, Q b s) → wpAny (model prog w) A (keyLt' κ x.1 y.1) Q E' s) : Cmp (model prog w) A E s S κ := fun x y st Q hx hy hk hq => by
  rw [lt'_eq]
  refine wpS_bind (wpS_get ?_)
  rw [hk]
  exact wpS_bind (wpS_lift (wpAny_attempt (h x y hx hy _ _ fun b => ⟨rfl, wpS_pure (hq b)⟩)))
theorem srt_strs {l : Addr} {vs : List Value} {ss : List Str} {Q : Value → Shared → Prop} (hl : s.heap.IsList l vs.toArray) (hS : StrsAre vs ss) (hsz : vs.length ≤ 1000)
    (h : ∀ out : Array Value, out.size = vs.length → (∀ v ∈ out, v ∈ vs) → Q (.ref (s.heap.objs.size + 1)) { s with heap := sortedAll s.heap vs out }) : wpAny (model prog w) A (call (.builtin "sorted") [.ref l]) Q E s := by
  refine srt_call (κ := oneType') hl hsz (fun A E s' _ h2 Q q => ?_) (fun A E s' _ => cmp_of fun x y hx hy Q E' q => ?_) h
  · cases vs with
    | nil => exact absurd h2 (by simp)
    | cons a r =>
      cases r with
      | nil => exact absurd h2 (by simp)
      | cons b r =>
        rw [keyKind_strs hS]
        exact wpAny_pure q
  · obtain ⟨x1, t1, e1⟩ := hS.all _ hx.1
    obtain ⟨y1, t2, e2⟩ := hS.all _ hy.1
    rw [hx.2, hy.2, e1, e2, keyLt'_oneType]
    exact oneLt_str (q _)
end
open PySem PyProof.Rows PySem.W
section
variable {prog : Program} {w : World} {A : Around} {E : Value → Shared → Prop} {s : Shared}
def IsPair (h : Heap) (v : Value) : Prop := ∃ a i t z u, v = .ref a ∧ IsTup h a #[.int i t, .str z u]
theorem IsPair.stays {h h' : Heap} {v : Value} (k : Stays h h') (p : IsPair h v) : IsPair h' v := by
  obtain ⟨a, i, t, z, u, rfl, o, e, c, n, d⟩ := p
  exact ⟨a, i, t, z, u, rfl, o, k _ _ e, c, n, d⟩
theorem pair_lt {x y : Value} {Q : Bool → Shared → Prop} (hx : IsPair s.heap x) (hy : IsPair s.heap y) (q : ∀ b, Q b s) : wpAny (model prog w) A (keyLt' (tuples' true) x y) Q E s := by
  obtain ⟨a, i, t, z, u, rfl, o, e, c, n, d⟩ := hx
  obtain ⟨a', i', t', z', u', rfl, o', e', c', n', d'⟩ := hy
  refine kat_lt e d e' d' ?_
  show KatLex prog w A true (decide (2 < 2)) Q [(Value.int i t, Value.int i' t'), (Value.str z u, Value.str z' u')] 0 s
  refine kat_cons (wpAny_eqBool_int ?_)
  refine kat_go (fun _ => kat_yes ?_) (fun _ => kat_no (oneLt_int (q _)))
  refine kat_cons (wpAny_eqBool_str ?_)
  exact kat_go (fun _ => kat_yes (kat_nil (q _))) (fun _ => kat_no (kat_one _ _ (PySem.P.lt_str (q _))))
theorem pair_tups : ∀ (vs : List Value), (∀ v ∈ vs, IsPair s.heap v) → ∃ fs, fs.length = vs.length ∧ KatTups s.heap vs fs ∧ ∀ f ∈ fs, ∃ i t, f = Value.int i t
  | [], _ => ⟨[], rfl, trivial, by simp⟩
  | v :: vs, h => by
    obtain ⟨fs, l, k, g⟩ := pair_tups vs fun x hx => h x (by simp [hx])
    obtain ⟨a, i, t, z, u, rfl, o, e, c, n, d⟩ := h v (by simp)
    exact ⟨.int i t :: fs, by simp [l], KatTups.cons e c d rfl k, fun f hf => by
      rcases List.mem_cons.mp hf with rfl | hf
      · exact ⟨i, t, rfl⟩
      · exact g f hf⟩
theorem srt_pairs {l : Addr} {vs : List Value} {Q : Value → Shared → Prop} (hl : s.heap.IsList l vs.toArray) (hS : ∀ v ∈ vs, IsPair s.heap v) (hsz : vs.length ≤ 1000)
    (h : ∀ out : Array Value, out.size = vs.length → (∀ v ∈ out, v ∈ vs) → Q (.ref (s.heap.objs.size + 1)) { s with heap := sortedAll s.heap vs out }) : wpAny (model prog w) A (call (.builtin "sorted") [.ref l]) Q E s := by
  refine srt_call (κ := tuples' true) hl hsz (fun A E s' k h2 Q q => ?_) (fun A E s' k => cmp_of fun x y hx hy Q E' q => ?_) h
  · obtain ⟨fs, l, t, g⟩ := pair_tups (s := s') vs fun v hv => (hS v hv).stays k
    refine kat_kind (T := .type "int") t (by omega) (fun v hv => ?_) (by decide) (by exact q)
    obtain ⟨i, t, rfl⟩ := g v hv
    exact .now
  · rw [hx.2, hy.2]
    exact pair_lt ((hS _ hx.1).stays k) ((hS _ hy.1).stays k) q
end
end TS
namespace DD
open PySem PySem.Spec PyProof.Rows L2
def ltA : D → D → Option D
  | .int i, .int j => some (.bl (decide (i < j)))
  | .str s, .str t => some (.bl (decide (s < t)))
  | _, _ => none
section
variable {X : Cx}
theorem op_ltS : OpR X (compareOp .Lt) (fun x y H Q => ∃ i j, x = .str i ∧ y = .str j ∧ Q (.bl (decide (i.cps.toList < j.cps.toList))) H) := by
  intro pins s σ H x y v u Q I rx ry hq
  obtain ⟨i, j, rfl, rfl, q⟩ := hq
  obtain ⟨t, rfl⟩ := rx
  obtain ⟨t', rfl⟩ := ry
  exact PySem.P.lt_str ⟨.bl _, H, I, rfl, q⟩
def rLtA : R2 := fun x y H Q => rI0 (fun i j => .bl (decide (i < j))) x y H Q ∨ ∃ i j, x = .str i ∧ y = .str j ∧ Q (.bl (decide (i.cps.toList < j.cps.toList))) H
theorem op_ltA : OpR X (compareOp .Lt) rLtA := op_lt.or op_ltS
theorem od_ltA {K : Fg} : OpD K rLtA ltA := by
  intro O H dx dy d vx vy Q ol ix iy e q
  cases dx <;> cases dy <;> first | (simp only [ltA, reduceCtorEq] at e; done) | skip
  · simp only [ltA, Option.some.injEq] at e
    subst e
    rw [Is.int_iff] at ix iy
    exact .inl ⟨_, _, ix, iy, q _ H (Same.refl H) (by rw [Is.bl_iff])⟩
  · simp only [ltA, Option.some.injEq] at e
    subst e
    rw [Is.str_iff] at ix iy
    exact .inr ⟨_, _, ix, iy, q _ H (Same.refl H) (by rw [Is.bl_iff])⟩
end
theorem vals_mem : ∀ {ys : List V} {its : List Value}, Vals ys its → ∀ v ∈ its, ∃ y ∈ ys, RelV y v
  | _, _, .nil, v, h => by simp at h
  | _, _, .cons r t, v, h => by
    rcases (List.mem_cons).mp h with rfl | h
    · exact ⟨_, by simp, r⟩
    · obtain ⟨y, hy, q⟩ := vals_mem t v h
      exact ⟨y, by simp [hy], q⟩
theorem vals_sub {ys : List V} {its : List Value} (h : Vals ys its) : ∀ vs : List Value, (∀ v ∈ vs, v ∈ its) → ∃ zs, Vals zs vs ∧ ∀ z ∈ zs, z ∈ ys
  | [], _ => ⟨[], .nil, by simp⟩
  | v :: vs, g => by
    obtain ⟨zs, a, b⟩ := vals_sub h vs fun x hx => g x (by simp [hx])
    obtain ⟨y, hy, r⟩ := vals_mem h v (g v (by simp))
    exact ⟨y :: zs, .cons r a, fun z hz => by
      rcases (List.mem_cons).mp hz with rfl | hz
      · exact hy
      · exact b z hz⟩
theorem strs_are : ∀ {ys : List V} {its : List Value}, Vals ys its → (∀ y ∈ ys, ∃ z, y = .str z) → ∃ ss, StrsAre its ss
  | _, _, .nil, _ => ⟨[], .nil⟩
  | _, _, .cons r t, h => by
    obtain ⟨ss, q⟩ := strs_are t fun y hy => h y (by simp [hy])
    obtain ⟨z, e⟩ := h _ List.mem_cons_self
    subst e
    obtain ⟨u, rfl⟩ := r
    exact ⟨z :: ss, .cons _ _ q⟩
section
variable {X : Cx}
def rSort (K : Fg) : List V → Hp → VK → Prop := fun xs H Q => ∃ p ys, xs = [.ref p] ∧ SqL K H p ys ∧ ys.length ≤ 1000 ∧ ((∀ y ∈ ys, ∃ z, y = .str z) ∨ (∀ y ∈ ys, ∃ b i z, y = .ref b ∧ SqT K H b [.int i, .str z])) ∧
  ∀ ys' l, ys'.length = ys.length → (∀ y ∈ ys', y ∈ ys) → H l = none → Q (.ref l) (upd H l (.lst ys'))
theorem call_sort : CallR X (.builtin "sorted") (rSort X.K) := by
  intro pins s σ H xs us Q I r h
  obtain ⟨p, ys, rfl, hq, hl, hk, q⟩ := h
  obtain ⟨u, rfl, rx⟩ := vals1 r
  cases rx
  obtain ⟨its, rv, pl, hz⟩ := I.list hq
  have hlen := rv.length
  have fin : ∀ out : Array Value, out.size = its.length → (∀ v ∈ out, v ∈ its) → EP X pins σ Q (.ref (s.heap.objs.size + 1)) { s with heap := sortedAll s.heap its out } := fun out o1 o2 => by
    obtain ⟨zs, v1, v2⟩ := vals_sub rv out.toList fun v hv => o2 v (Array.mem_toList_iff.mp hv)
    have zl : zs.length = ys.length := by rw [v1.length, Array.length_toList, o1, hlen]
    obtain ⟨e, he⟩ := sortedAll_at s.heap its out
    exact ⟨.ref (s.heap.objs.size + 1), _, I.laid (t' := s.toks) (fun b o eb => sortedAll_old eb) (Nat.le_succ _) (show ObjOk X.prog X.w _ _ _ (.lst zs) from ⟨by rw [zl]; exact hz, out.toList, e, v1, by rw [Array.toArray_toList]; exact he⟩), rfl, q zs _ zl v2 (I.hok.fresh (Nat.le_succ _))⟩
  rcases hk with hk | hk
  · obtain ⟨ss, hs⟩ := strs_are rv hk
    exact TS.srt_strs pl.isList hs (by omega) fin
  · refine TS.srt_pairs pl.isList (fun v hv => ?_) (by omega) fin
    obtain ⟨y, hy, ry⟩ := vals_mem rv v hv
    obtain ⟨b, i, z, rfl, sq⟩ := hk y hy
    cases ry
    obtain ⟨js, rj, tj, _⟩ := I.tuple sq
    obtain ⟨j1, jr, ej, ⟨t, e1⟩, rk⟩ : ∃ j1 r, js = j1 :: r ∧ RelV (.int i) j1 ∧ Vals [.str z] r := by cases rj with | cons a b => exact ⟨_, _, rfl, a, b⟩
    obtain ⟨j2, e2, ⟨t2, e3⟩⟩ := vals1 rk
    subst e1; subst e2; subst e3; subst ej
    exact ⟨b, i, t, z, t2, rfl, tj⟩
end
abbrev MN := En → (Fl → Prop) → Prop
def lN (K : Fg) (G : MN) : TS := fun Dn σ H => ∃ O0 r, R K O0 H r σ ∧ G r (PostS K O0 H r σ Dn)
def DNs (X : Cx) (sts : List Stmt) (G : MN) : Prop := PSs X sts (lN X.K G)
def Grows (G : MN) : Prop := ∀ (r : En) (Q Q' : Fl → Prop), (∀ fl, Q fl → Q' fl) → G r Q → G r Q'
def nD (g : MS) : MN := fun r Q => ∃ fl, g r = some fl ∧ Q fl
def nSeq (g : MS) (G : MN) : MN := fun r Q => ∃ fl, g r = some fl ∧ (match fl with
  | .nx r1 => G r1 Q
  | x => Q x)
def Sbl (l : List D) : Prop := l.length ≤ 1000 ∧ ((∀ d ∈ l, ∃ s, d = .str s) ∨ (∀ d ∈ l, ∃ i s, d = .tup [.int i, .str s]))
def nSort (i : Nat) (fl : ML) (G : MN) : MN := fun r Q => ∃ l, fl r = some l ∧ Sbl l ∧ ∀ l' : List D, l'.length = l.length → (∀ d ∈ l', d ∈ l) → ∃ r', setV i (.lst l') r = some r' ∧ G r' Q
theorem gr_d (g : MS) : Grows (nD g) := fun r Q Q' h ⟨fl, e, q⟩ => ⟨fl, e, h fl q⟩
theorem gr_seq {g : MS} {G : MN} (hG : Grows G) : Grows (nSeq g G) := fun r Q Q' h ⟨fl, e, q⟩ => ⟨fl, e, by
  cases fl with
  | nx r1 => exact hG r1 Q Q' h q
  | bk r1 => exact h _ q
  | ct r1 => exact h _ q
  | rt d r1 => exact h _ q
  | rf l r1 => exact h _ q⟩
theorem gr_sort {i : Nat} {fl : ML} {G : MN} (hG : Grows G) : Grows (nSort i fl G) := fun r Q Q' h ⟨l, e, s, q⟩ => ⟨l, e, s, fun l' a b => by
  obtain ⟨r', e', q'⟩ := q l' a b
  exact ⟨r', e', hG r' Q Q' h q'⟩⟩
section
variable {X : Cx}
theorem dn_d {sts : List Stmt} {g : MS} (h : DSs X sts g) : DNs X sts (nD g) := PSs.conseq h fun Dn σ H ⟨O0, r, hR, fl, e, q⟩ => ⟨O0, r, fl, hR, e, q⟩
theorem dn_cons {st : Stmt} {rest : List Stmt} {g : MS} {G : MN} (h1 : DS X st g) (h2 : DNs X rest G) (hG : Grows G) : DNs X (st :: rest) (nSeq g G) := by
  refine PSs.conseq (pss_cons h1 h2) fun Dn σ H hq => ?_
  obtain ⟨O0, r, hR, fl, e, q⟩ := hq
  cases fl with
  | nx r1 => exact ⟨O0, r, .nx r1, hR, e, fun σ' H' R' k => ⟨O0, r1, R', hG r1 _ _ (fun fl z => z.before R' k) q⟩⟩
  | bk r1 => exact ⟨O0, r, _, hR, e, q⟩
  | ct r1 => exact ⟨O0, r, _, hR, e, q⟩
  | rt d r1 => exact ⟨O0, r, _, hR, e, q⟩
  | rf l r1 => exact ⟨O0, r, _, hR, e, q⟩
theorem isl_sub {K : Fg} {O : Addr → Prop} {H : Hp} {l : List D} {ys : List V} (h : IsL K O H l ys) : ∀ zs : List V, (∀ z ∈ zs, z ∈ ys) → ∃ l', l'.length = zs.length ∧ (∀ d ∈ l', d ∈ l) ∧ IsL K O H l' zs
  | [], _ => ⟨[], rfl, by simp, IsL.nil⟩
  | z :: zs, g => by
    obtain ⟨l', a, b, c⟩ := isl_sub h zs fun x hx => g x (by simp [hx])
    obtain ⟨i, hi, e⟩ := List.mem_iff_getElem.mp (g z (by simp))
    have hl := h.length
    have hi' : i < l.length := by omega
    obtain ⟨v, e1, q⟩ := h.get (i := i) (d := l[i]) (List.getElem?_eq_getElem hi')
    rw [List.getElem?_eq_getElem hi, e] at e1
    cases e1
    exact ⟨l[i] :: l', by simp [a], fun d hd => by
      rcases (List.mem_cons).mp hd with rfl | hd
      · exact List.getElem_mem hi'
      · exact b d hd, .cons q c⟩
theorem isl_all {K : Fg} {O : Addr → Prop} {H : Hp} {P : D → Prop} {l : List D} {ys : List V} (h : IsL K O H l ys) (hp : ∀ d ∈ l, P d) : ∀ y ∈ ys, ∃ d, P d ∧ Is K O H d y := fun y hy => by
  obtain ⟨i, hi, e⟩ := List.mem_iff_getElem.mp hy
  have hl := h.length
  have hi' : i < l.length := by omega
  obtain ⟨v, e1, q⟩ := h.get (i := i) (d := l[i]) (List.getElem?_eq_getElem hi')
  rw [List.getElem?_eq_getElem hi, e] at e1
  cases e1
  exact ⟨l[i], hp _ (List.getElem_mem hi'), q⟩
theorem dn_sort (i : Nat) {x : Str} {pos pos' p' p2 : Pos} {a : Expr} {rest : List Stmt} {fl : ML} {G : MN} (hg : Gl X "sorted") (hm : X.mg "sorted" = none) (ha : DB X a fl) (h2 : DNs X rest G) (hG : Grows G) (hN : X.N.Nodup) (hi : X.N[i]? = some x := by rfl) (hx : Loc X.env.scope x := by first | exact Or.inl rfl | exact Or.inr rfl)
    (hs : swapsWith (.Call (.Name "sorted" p') [a] [] p2) (some (.Name x pos')) pos.line X.env = pure false := by rfl) (hf : X.fn x = true ∨ X.env.scope.names.lookup x = some .local := by first | exact .inl rfl | exact .inr rfl)
    (hst : starEach [a] X.env = (false, eval a X.env) :: starEach [] X.env := by rfl) :
    DNs X (.Assign [.Name x pos'] (.Call (.Name "sorted" p') [a] [] p2) pos :: rest) (nSort i fl G) := by
  refine PSs.conseq (pss_cons (ps_set hN hi hx (pe_callB call_sort hg hm PyProof.Rows.boot_sorted (pa_cons ha pa_nil hst) (he := hst)) hs hf) h2) fun Dn σ H hq => ?_
  obtain ⟨O0, r, hR, l, e1, ⟨sz, sk⟩, q⟩ := hq
  refine ⟨O0, r, l, hR, e1, fun p ys H1 s1 sq il => ⟨p, ys, rfl, sq, by rw [← il.length]; exact sz, ?_, fun zs t zl zsub ht => ?_⟩⟩
  · rcases sk with sk | sk
    · refine .inl fun y hy => ?_
      obtain ⟨d, ⟨s, rfl⟩, id⟩ := isl_all il sk y hy
      rw [Is.str_iff] at id
      exact ⟨_, id⟩
    · refine .inr fun y hy => ?_
      obtain ⟨d, ⟨j, s, rfl⟩, id⟩ := isl_all il sk y hy
      rw [Is.tup_iff] at id
      obtain ⟨b, xs, rfl, sqt, ix⟩ := id
      obtain ⟨v1, v2, rfl, i1, i2⟩ := ix.inv2
      rw [Is.int_iff] at i1
      rw [Is.str_iff] at i2
      subst i1; subst i2
      exact ⟨b, j, _, rfl, sqt⟩
  · obtain ⟨l', l1, l2, l3⟩ := isl_sub il zs zsub
    obtain ⟨r', e2, q2⟩ := q l' (by rw [l1, zl, il.length]) l2
    obtain ⟨hl, np, rfl⟩ := setV_some e2
    have hR1 := hR.same s1
    have iv : Is X.K (Ow O0 r σ) (upd H1 t (.lst zs)) (.lst l') (.ref t) := by
      rw [Is.lst_iff]
      exact ⟨t, zs, rfl, .inl ⟨hR1.nofresh ht, .inl upd_same⟩, l3.same (same_upd ht) hR1.ol⟩
    have sm : Same H1 (upd H1 t (.lst zs)) := same_upd ht
    have hR2 := hR.same (s1.trans sm)
    obtain ⟨R1, k1⟩ := hR2.setv hl np iv
    have kk := (Kp.of_same r σ (s1.trans sm)).trans k1
    exact ⟨O0, _, R1, hG _ _ _ (fun fl z => z.before R1 kk) q2⟩
end
def spT (K : Fg) (n nN : Nat) (G : MN) : Sp := fun vs H Q _ => ∃ O0 as, as.length = n ∧ R K O0 H as (vs.map some) ∧ G (as ++ List.replicate (nN - n) .un) (fun fl => ∃ r', fl = .rt (.bl true) r') ∧ ∀ H', Q (.bl true) H'
section
variable {P : Program} {w : World} {K : Fg} {mg : Str → Option Value} {base : Heap}
theorem fn_n {x qual : Str} {st : Stmt} {f : Addr} {fd : FuncData} {N ps : List Str} {k : Nat} {G : MN} (F : Fun K x qual st f fd) (S : FnScope N ps (defScope st)) (n : Nat) (nN : Nat) (hn : ps.length = n := by rfl) (hN : N.length = nN := by rfl) (hG : Grows G)
    (hb : ∀ (cdv : Value) (A : Around) (outer : List Env) (s : Shared) (H : Hp) (E : XK), Room k (A.deeper (envOfC qual (defScope st) s.heap.objs.size f cdv)) →
      DNs (cxOf CX0 P w K mg base N qual (defScope st) f cdv A outer s H E).nox (defBody st) G) : FnOk P w K mg base CX0 (k + 1) f fd ps (spT K n nN G) := by
  subst hn hN
  refine F.ok S (fun vs H Q E h => ?_) (fun cdv A outer s H vs Q E hr h => ?_)
  · obtain ⟨O0, as, hl, hR, _⟩ := h
    have := hR.len
    simp at this; omega
  · obtain ⟨O0, as, hl, hR, e, q⟩ := h
    have hlv : as.length = vs.length := by simpa using hR.len
    refine ⟨_, hb cdv A outer s H E hr, ?_⟩
    have hst : L2.start N vs = vs.map some ++ List.replicate (N.length - ps.length) none := by unfold L2.start; rw [← hlv, hl]
    rw [hst]
    refine ⟨O0, _, R.start (k := N.length - ps.length) hR, hG _ _ _ (fun fl z => ?_) e⟩
    obtain ⟨r', rfl⟩ := z
    intro v σ' H' R' k' i'
    rw [Is.bl_iff] at i'
    subst i'
    exact q H'
end
section
variable {X : Cx} {pos : Pos} {a b : Expr}
def mInB (neg : Bool) (f : ME) (fl : ML) : MB := fun r => (f r).bind fun x => (fl r).bind fun l => (inD neg x (.lst l)).bind blD
theorem dt_notInB {f : ME} {fl : ML} (ha : DE X a f) (hb : DB X b fl) (hm : behindInMarks .NotIn b = false := by rfl) : DT X (.Compare a [.NotIn] [b] pos) (mInB true f fl) := by
  refine PT.conseq (pt_cmpR op_notIn_seq ha hb hm) fun σ H Q h => ?_
  obtain ⟨O0, r, k, hR, e, q⟩ := h
  obtain ⟨x, e1, e⟩ := bind_some e
  obtain ⟨l, e2, e⟩ := bind_some e
  obtain ⟨d, e3, e4⟩ := bind_some e
  refine ⟨O0, r, x, hR, e1, fun v1 H1 s1 i1 => ⟨O0, r, l, hR.same s1, e2, fun p xs H2 s2 sq il => ?_⟩⟩
  have i1' := i1.same s2 (hR.same s1).ol
  simp only [inD] at e3
  split at e3
  · rename_i hl
    cases e3
    obtain ⟨q1, q2⟩ := in_ok i1' hl.1 il hl.2
    cases e4
    exact ⟨p, xs, rfl, .inl sq, flat_ok i1' hl.1, q1, _, by rw [q2]; rfl, q H2 (s1.trans s2)⟩
  · cases e3
theorem df_listOf {p' : Pos} {fl : ML} (hg : Gl X "list") (hm : X.mg "list" = none) (ha : DB X a fl) (hs : starEach [a] X.env = (false, eval a X.env) :: starEach [] X.env := by rfl) : DF X (.Call (.Name "list" p') [a] [] pos) fl := by
  refine PE.conseq (pe_callTy call_list_of hg hm PyProof.Rows.boot_list (pa_cons ha pa_nil hs) (he := hs)) fun σ H Q hq => ?_
  obtain ⟨O0, r, l, hR, e1, q⟩ := hq
  refine ⟨O0, r, l, hR, e1, fun p xs H1 s1 sq il => ⟨p, xs, rfl, .inl sq, fun t ht => q _ _ _ (s1.trans (same_upd ht)) (s1.free ht) upd_same ?_⟩⟩
  refine IsL.mono (Same.kp (same_upd ht) _) (hR.same s1).ol (fun a z n => ?_) _ xs il
  rcases z with z | z
  · exact z
  · subst z; exact absurd ht n
end
mutual
def toP : D → PyData
  | .non => .none
  | .bl b => .bool b
  | .int i => .int i
  | .str s => .str ⟨s.toArray⟩
  | .tup l => .tuple (toPs l)
  | .lst l => .list (toPs l)
  | .ty _ => .none
  | .ref _ => .none
def toPs : List D → List PyData
  | [] => []
  | d :: l => toP d :: toPs l
end
mutual
def okD : D → Bool
  | .tup l => okDs l
  | .lst l => okDs l
  | .ty _ => false
  | .ref _ => false
  | _ => true
def okDs : List D → Bool
  | [] => true
  | d :: l => okD d && okDs l
end
def layD (d : D) : Bool := okD d && (toP d).canLay0 && decide ((toP d).depth ≤ 150)
def eqT (x y : D) : Option D := if layD x = true ∧ layD y = true then some (.bl (PyData.eqv (toP x) (toP y))) else none
section
variable {X : Cx} {pins : List (Addr × Obj)} {σ : St} {H : Hp} {s : Shared} {O : Addr → Prop}
mutual
theorem reads_of (I : Inv X pins σ H s) : ∀ (d : D) (v : V) (u : Value), okD d = true → Is X.K O H d v → RelV v u → ∃ as, Reads s.heap u (toP d) as
  | .non, v, u, _, h, r => by rw [Is.non_iff] at h; subst h; cases r; exact ⟨_, .none⟩
  | .bl b, v, u, _, h, r => by rw [Is.bl_iff] at h; subst h; cases r; exact ⟨_, .bool b⟩
  | .int i, v, u, _, h, r => by rw [Is.int_iff] at h; subst h; obtain ⟨t, rfl⟩ := r; exact ⟨_, .int i t⟩
  | .str x, v, u, _, h, r => by rw [Is.str_iff] at h; subst h; obtain ⟨t, rfl⟩ := r; exact ⟨_, .str _ t⟩
  | .ty n, v, u, o, _, _ => by simp [okD] at o
  | .ref a, v, u, o, _, _ => by simp [okD] at o
  | .tup l, v, u, o, h, r => by
    rw [Is.tup_iff] at h
    obtain ⟨a, xs, rfl, sq, il⟩ := h
    cases r
    obtain ⟨its, rv, ⟨ob, e, c, n, dt⟩, _⟩ := I.tuple sq
    obtain ⟨as, q⟩ := readsL_of I l xs its (by simpa [okD] using o) il rv
    exact ⟨_, .tuple e c dt (by simpa using q)⟩
  | .lst l, v, u, o, h, r => by
    rw [Is.lst_iff] at h
    obtain ⟨a, xs, rfl, sq, il⟩ := h
    cases r
    obtain ⟨its, rv, ⟨ob, n, e, c, _, dt⟩, _⟩ := I.list sq.sq
    obtain ⟨as, q⟩ := readsL_of I l xs its (by simpa [okD] using o) il rv
    exact ⟨_, .list e c dt (by simpa using q)⟩
theorem readsL_of (I : Inv X pins σ H s) : ∀ (l : List D) (vs : List V) (us : List Value), okDs l = true → IsL X.K O H l vs → Vals vs us → ∃ as, ReadsAll s.heap us (toPs l) as
  | [], vs, us, _, h, r => by unfold IsL at h; subst h; cases r; exact ⟨_, .nil⟩
  | d :: l, vs, us, o, h, r => by
    unfold IsL at h
    obtain ⟨v, vr, rfl, h1, h2⟩ := h
    simp only [okDs, Bool.and_eq_true] at o
    cases r with
    | cons r1 r2 =>
      obtain ⟨as, q1⟩ := reads_of I d v _ o.1 h1 r1
      obtain ⟨bs, q2⟩ := readsL_of I l vr _ o.2 h2 r2
      exact ⟨_, .cons q1 q2⟩
end
end
section
variable {X : Cx}
def rEqT (K : Fg) : R2 := fun x y H Q => ∃ O dx dy, Is K O H dx x ∧ Is K O H dy y ∧ layD dx = true ∧ layD dy = true ∧ Q (.bl (PyData.eqv (toP dx) (toP dy))) H
theorem op_eqT (hu : X.A.units + 200 < cLine) : OpR X (compareOp .Eq) (rEqT X.K) := by
  intro pins s σ H x y v u Q I rx ry hq
  obtain ⟨O, dx, dy, ix, iy, lx, ly, q⟩ := hq
  unfold layD at lx ly
  simp only [Bool.and_eq_true, decide_eq_true_eq] at lx ly
  obtain ⟨as, qa⟩ := reads_of I dx x v lx.1.1 ix rx
  obtain ⟨bs, qb⟩ := reads_of I dy y u ly.1.1 iy ry
  exact PySem.SeqAt.compareEq_reads qa qb lx.1.2 ly.1.2 (by have := Nat.min_le_left (toP dx).depth (toP dy).depth; omega) ⟨.bl _, H, I, rfl, q⟩
theorem od_eqT {K : Fg} : OpD K (rEqT K) eqT := by
  intro O H dx dy d vx vy Q ol ix iy e q
  unfold eqT at e
  split at e
  · rename_i h
    cases e
    exact ⟨O, dx, dy, ix, iy, h.1, h.2, q _ H (Same.refl H) (by rw [Is.bl_iff])⟩
  · cases e
theorem un2 {k : Nat} {A : Around} (r : Room k A) : A.units + 200 < cLine := by have := r.un; omega
theorem eqT_refl {d : D} (h : layD d = true) : eqT d d = some (.bl true) := by
  unfold eqT
  rw [if_pos ⟨h, h⟩]
  unfold layD at h
  simp only [Bool.and_eq_true, decide_eq_true_eq] at h
  rw [PySem.SeqAt.eqv_refl _ h.1.2]
end
def fre : Sl → Prop
  | .un => True
  | .v _ => True
  | _ => False
theorem setV_fre {i : Nat} {d : D} {r : En} {x : Sl} (e : r[i]? = some x) (h : fre x) : setV i d r = some (r.set i (.v d)) := by
  unfold setV
  rw [e]
  cases x <;> first | rfl | cases h
theorem app_of {i : Nat} {f : ME} {r : En} {S : List D} {d : D} (e : r[i]? = some (.o S)) (e2 : f r = some d) (h : S.length < sizeLine) : mApp i f r = some (.non, r.set i (.o (S ++ [d]))) := by
  simp [mApp, mtOf, e, Sl.mt, putO, e2, h]
theorem seq_of {g h : MS} {r r' : En} (e : g r = some (.nx r')) : sSeq g h r = h r' := by
  unfold sSeq; rw [e]; rfl
theorem seq_rt {g h : MS} {r r' : En} {d : D} (e : g r = some (.rt d r')) : sSeq g h r = some (.rt d r') := by
  unfold sSeq; rw [e]; rfl
theorem sX_of {f : En → Option (D × En)} {r r' : En} {d : D} (e : f r = some (d, r')) : sX f r = some (.nx r') := by
  unfold sX; rw [e]; rfl
theorem sSet_of {i : Nat} {f : ME} {r r2 : En} {d : D} (e : f r = some d) (e2 : setV i d r = some r2) : sSet i f r = some (.nx r2) := by
  unfold sSet; rw [e]; show (setV i d r).map Fl.nx = _; rw [e2]; rfl
theorem sIf_t {c : MB} {g h : MS} {r : En} (e : c r = some true) : sIf c g h r = g r := by
  unfold sIf; rw [e]; rfl
theorem sIf_f {c : MB} {g h : MS} {r : En} (e : c r = some false) : sIf c g h r = h r := by
  unfold sIf; rw [e]; rfl
theorem at_zero {α : Type} (x : α) (l : List α) : atI (x :: l) 0 = some x := atI_nat (j := 0) rfl
theorem for_go {bd : D → En → Option En} {g : MS} {d : D} {l : List D} {r r1 r' : En} (h : bd d r = some r1) (e : g r1 = some (.nx r')) : forL bd g (d :: l) r = forL bd g l r' := by
  show (bd d r).bind _ = _
  rw [h, Option.bind_some, e, Option.bind_some]
section
variable {f g : ME} {fl gl : ML} {r : En} {x y d : D} {i j : Int}
theorem bin_of {m : D → D → Option D} (e1 : f r = some x) (e2 : g r = some y) (e : m x y = some d) : mBin m f g r = some d := by
  unfold mBin; rw [e1, Option.bind_some, e2]; exact e
theorem un_of {m : D → Option D} (e1 : f r = some x) (e : m x = some d) : mUn m f r = some d := by
  unfold mUn; rw [e1]; exact e
theorem add_of (e1 : f r = some (.int i)) (e2 : g r = some (.int j)) : mBin addD f g r = some (.int (i + j)) := bin_of e1 e2 rfl
theorem mod_of (e1 : f r = some (.int i)) (e2 : g r = some (.int j)) (h : 0 < j) : mBin modD f g r = some (.int (i % j)) := bin_of e1 e2 (if_pos h)
theorem mul_of (e1 : f r = some (.int i)) (e2 : g r = some (.int j)) (h : -(2 ^ 64) < i ∧ i < 2 ^ 64) : mBin mulD f g r = some (.int (i * j)) := bin_of e1 e2 (if_pos (.inl h))
theorem fdiv_of (e1 : f r = some (.int i)) (e2 : g r = some (.int j)) (h : 0 < j ∧ j < 1073741824) : mBin fdivD f g r = some (.int (i / j)) := bin_of e1 e2 (if_pos h)
theorem con_of : mC d r = some d := rfl
theorem cons_of {l : List D} (e1 : f r = some x) (e2 : fl r = some l) : mCons f fl r = some (x :: l) := by
  unfold mCons; rw [e1, Option.bind_some, e2]; rfl
theorem nil_of : mNil r = some [] := rfl
theorem tup_of {l : List D} (e : fl r = some l) (h : l.length ≤ 100) : mTup fl r = some (.tup l) := by
  unfold mTup; rw [e, Option.bind_some, if_pos (Nat.le_trans h (by decide))]
theorem call_of {n : Nat} {m : MF} {l : List D} {p : Rs} (e : fl r = some l) (hl : l.length = n) (h : ∃ as, m (l.map .v) = some (p, as)) : mCall n m fl r = some (rsD p) := by
  obtain ⟨as, h⟩ := h
  unfold mCall; rw [e, Option.bind_some, if_pos hl, h]; rfl
theorem bl_of {b : Bool} (e : f r = some (.bl b)) : mBl f r = some b := by
  unfold mBl; rw [e]; rfl
theorem ret_of (e : f r = some d) : sRet f r = some (.rt d r) := by
  unfold sRet; rw [e]; rfl
theorem seq_set {k : Nat} {h : MS} {r2 : En} {z : Option Fl} (d : D) (e : f r = some d) (e2 : setV k d r = some r2) (q : h r2 = z) : sSeq (sSet k f) h r = z := by
  rw [seq_of (sSet_of e e2)]; exact q
theorem seq_ff {c : MB} {a h : MS} {z : Option Fl} (e : c r = some false) (q : h r = z) : sSeq (sIf c a sSkip) h r = z := by
  rw [seq_of (r' := r) (by rw [sIf_f e]; rfl)]; exact q
theorem seq_tt {c : MB} {a h : MS} {r' : En} (e : c r = some true) (q : a r = some (.rt d r')) : sSeq (sIf c a sSkip) h r = some (.rt d r') := seq_rt (by rw [sIf_t e]; exact q)
theorem mk_rt {n N : Nat} {s : MS} {as : List Sl} {r' : En} (e : s (as ++ List.replicate (N - n) .un) = some (.rt d r')) : ∃ bs, mkF n N s as = some (.v d, bs) := by
  unfold mkF; rw [e]; exact ⟨_, rfl⟩
end
theorem str_add {s t : List Nat} (h : s.length + t.length ≤ 100) : addD (.str s) (.str t) = some (.str (s ++ t)) := if_pos (Nat.le_trans h (by decide))
theorem sl_of {f : ME} {lo hi : MO} {r : En} {x d : D} {a b : Option Int} (e1 : f r = some x) (e2 : lo r = some a) (e3 : hi r = some b) (e : slD x a b = some d) : mSl f lo hi r = some d := by
  unfold mSl; rw [e1, Option.bind_some, e2, Option.bind_some, e3]; exact e
theorem osome_of {g : ME} {r : En} {i : Int} (e : g r = some (.int i)) : oSome g r = some (some i) := by
  unfold oSome; rw [e]; rfl
theorem gt_of {f g : ME} {r : En} {i j : Int} (e1 : f r = some (.int i)) (e2 : g r = some (.int j)) : mBl (mBin gtD f g) r = some (decide (j < i)) := bl_of (bin_of e1 e2 rfl)
theorem lst_add {l m : List D} (h : l.length + m.length ≤ 100000) : addD (.lst l) (.lst m) = some (.lst (l ++ m)) := if_pos (Nat.le_trans h (by decide))
theorem cut_mid {α : Type} (s : List α) (i k : Nat) : cutL s (some (i : Int)) (some (k : Int)) = (s.take k).drop i := by
  unfold cutL
  rw [HT.sIx_nat, HT.sIx_nat, List.drop_take]
  by_cases h : i ≤ s.length
  · rw [Nat.min_eq_left h, List.take_eq_take_iff, List.length_drop]
    omega
  · have e1 : s.drop (min i s.length) = [] := List.drop_of_length_le (by omega)
    have e2 : s.drop i = [] := List.drop_of_length_le (by omega)
    rw [e1, e2]; simp
theorem rng_of {f : ME} {r : En} {n : Nat} (e : f r = some (.int (n : Int))) (h : n < 1000) : mRng1 f r = some ((List.range n).map fun k => .int ((0 : Int) + (k : Nat))) := by
  have h1 : -(2 ^ 62 : Int) ≤ (n : Int) ∧ (n : Int) < 2 ^ 62 := by constructor <;> omega
  have h2 : DD.intD (.int (n : Int)) = some (n : Int) := by unfold DD.intD; rfl
  unfold mRng1
  rw [e, Option.bind_some, h2, Option.bind_some, if_pos h1, Int.toNat_natCast]
  unfold rngD; rfl
theorem ladd {f g : ME} {r : En} {l m : List D} (e1 : f r = some (.lst l)) (e2 : g r = some (.lst m)) (h : l.length + m.length ≤ 100000) : mBin addD f g r = some (.lst (l ++ m)) := bin_of e1 e2 (lst_add h)
theorem for_rt {bd : D → En → Option En} {g : MS} {x d : D} {l : List D} {r r1 r' : En} (h : bd x r = some r1) (e : g r1 = some (.rt d r')) : forL bd g (x :: l) r = some (.rt d r') := by
  unfold forL; rw [h, Option.bind_some, e]; rfl
theorem bdP {i j : Nat} {a b : D} {r r1 r2 : En} (h1 : setV i a r = some r1) (h2 : setV j b r1 = some r2) : bdSeq 2 (bdCons (setV i) (bdCons (setV j) bdNil)) (.tup [a, b]) r = some r2 := by
  show ((setV i a r).bind fun z => (setV j b z).bind fun y => some y) = _
  rw [h1, Option.bind_some, h2]; rfl
end DD
namespace K51
open PySem PySem.Spec PyProof.Rows L2 DD
def top (i : Nat) : Stmt := PySem.Challenge.pw_fieldrows_k51_offset.main.body.getD i (.Pass ⟨0, 0, 0, 0⟩)
def g_parameter_of : MS := (sSeq (sFor (bdSeq 2 (bdCons (setV 3) (bdCons (setV 4) bdNil))) (mEnum (mVar 2))
 (sIf (mBl (mBin eqT (mVar 4) (mTup (mCons (mVar 0) (mCons (mVar 1) mNil)))))
 (sRet (mVar 3))
 sSkip))
 (sRet (mC .non)))
def F_parameter_of : MF := mkF 3 5 g_parameter_of
def g_offset : MS := (sRet (mTup (mCons (mUn lenD (mOfF (mCompIf [1] 3 (mIt (mBin ixD (mVar 0) (mC (.int 1)))) (bdSeq 2 (bdCons (setV 1) (bdCons (setV 2) bdNil))) (mBl (mBin ltA (mVar 1) (mVar 0))) (mVar 1)))) (mCons (mCall 3 F_parameter_of (mCons (mBin ixD (mVar 0) (mC (.int 2))) (mCons (mVar 1) (mCons (mVar 2) mNil)))) mNil))))
def F_offset : MF := mkF 3 3 g_offset
def g__law_whole : MS := (sRet (mAnd (mUn (instD "int") (mVar 0)) (mUn notD (mUn (instD "bool") (mVar 0)))))
def F__law_whole : MF := mkF 1 1 g__law_whole
def g__law_mixed : MS := (sSeq (sSet 2 (mBin modD (mBin addD (mBin addD (mBin mulD (mBin modD (mVar 0) (mBin powD (mC (.int 10)) (mC (.int 18)))) (mC (.int 48271))) (mBin mulD (mBin mulD (mVar 1) (mVar 1)) (mC (.int 7919)))) (mC (.int 101))) (mC (.int 2147483647))))
 (sRet (mBin modD (mBin mulD (mVar 2) (mVar 2)) (mC (.int 2147483629)))))
def F__law_mixed : MF := mkF 2 3 g__law_mixed
def g__law_word : MS := (sSeq (sSet 1 (mC (.str [98, 99, 100, 103, 104, 106, 107, 108, 109, 110, 112, 113, 114, 115, 116, 118, 119, 120, 121, 122])))
 (sSeq (sSet 2 (mC (.str [])))
 (sSeq (sFor (setV 3) (mRng1 (mBin addD (mC (.int 1)) (mBin modD (mVar 0) (mC (.int 8)))))
 (sSeq (sSet 2 (mBin addD (mVar 2) (mBin ixD (mVar 1) (mBin modD (mBin fdivD (mVar 0) (mC (.int 8))) (mBin ixD (mOfF (mLstF (mCons (mC (.int 20)) (mCons (mC (.int 2)) (mCons (mC (.int 2)) (mCons (mC (.int 20)) (mCons (mC (.int 2)) (mCons (mC (.int 3)) (mCons (mC (.int 2)) (mCons (mC (.int 2)) mNil)))))))))) (mVar 3))))))
 (sSet 0 (mBin fdivD (mVar 0) (mC (.int 3))))))
 (sRet (mVar 2)))))
def F__law_word : MF := mkF 1 4 g__law_word
def g__law_words : MS := (sSeq (sOwn 1 (mLstF mNil))
 (sSeq (sFor (bdSeq 2 (bdCons (setV 2) (bdCons (setV 3) bdNil))) (mEnum (mSl (mVar 0) (oSome (mC (.int 2))) (oSome (mC (.int 42)))))
 (sSeq (sSet 4 (mCall 1 F__law_word (mCons (mCall 2 F__law_mixed (mCons (mVar 3) (mCons (mVar 2) mNil))) mNil)))
 (sIf (mInB true (mVar 4) (mOwn 1))
 (sX (mApp 1 (mVar 4)))
 sSkip)))
 (sRetOwn 1)))
def F__law_words : MF := mkF 1 5 g__law_words
def g__law_good : MS := (sSeq (sIf (mOrT (mNotT (mTru (mUn (instD "tuple") (mVar 0)))) (mOrT (mBl (mBin neA (mUn lenD (mVar 0)) (mC (.int 2)))) (mNotT (mTru (mCall 1 F__law_whole (mCons (mBin ixD (mVar 0) (mC (.int 0))) mNil))))))
 (sRet (mC (.bl false)))
 sSkip)
 (sSeq (sIf (mAndT (mBl (mBin notND (mBin ixD (mVar 0) (mC (.int 1))) (mC .non))) (mNotT (mTru (mCall 1 F__law_whole (mCons (mBin ixD (mVar 0) (mC (.int 1))) mNil)))))
 (sRet (mC (.bl false)))
 sSkip)
 (sRet (mBin eqT (mVar 0) (mVar 1)))))
def F__law_good : MF := mkF 2 2 g__law_good
def g__law_due : MS := (sSeq (sSet 4 (mC (.int 0)))
 (sSeq (sFor (setV 5) (mIt (mVar 0))
 (sIf (mBl (mBin ltA (mVar 5) (mVar 2)))
 (sSet 4 (mBin addD (mVar 4) (mC (.int 1))))
 sSkip))
 (sSeq (sIf (mBl (mBin isND (mVar 1) (mC .non)))
 (sRet (mTup (mCons (mVar 4) (mCons (mC .non) mNil))))
 sSkip)
 (sSeq (sFor (bdSeq 2 (bdCons (setV 6) (bdCons (setV 7) bdNil))) (mEnum (mVar 3))
 (sIf (mBl (mBin eqT (mVar 7) (mTup (mCons (mVar 1) (mCons (mVar 2) mNil)))))
 (sRet (mTup (mCons (mVar 4) (mCons (mVar 6) mNil))))
 sSkip))
 (sRet (mTup (mCons (mVar 4) (mCons (mC .non) mNil))))))))
def F__law_due : MF := mkF 4 8 g__law_due
def g_law : MN := (nSeq (sSet 1 (mC (.int 0)))
 (nSeq (sIf (mBl (mBin gtD (mUn lenD (mVar 0)) (mC (.int 0))))
 (sSet 1 (mCall 2 F__law_mixed (mCons (mBin ixD (mVar 0) (mC (.int 0))) (mCons (mC (.int 100)) mNil))))
 sSkip)
 (nSeq (sSet 2 (mOfF (mCallF 1 F__law_words (mCons (mVar 0) mNil))))
 (nSort 3 (mCompIf [1] 3 (mEnum (mVar 2)) (bdSeq 2 (bdCons (setV 1) (bdCons (setV 2) bdNil))) (mBl (mBin gtD (mBin modD (mCall 2 F__law_mixed (mCons (mVar 0) (mCons (mVar 1) mNil))) (mC (.int 3))) (mC (.int 0)))) (mVar 2))
 (nSeq (sSet 4 (mC .non))
 (nSeq (sIf (mBl (mBin gtD (mBin modD (mVar 1) (mC (.int 4))) (mC (.int 0))))
 (sSet 4 (mBin addD (mC (.int 6)) (mBin modD (mBin fdivD (mVar 1) (mC (.int 4))) (mC (.int 1000)))))
 sSkip)
 (nSeq (sOwn 5 (mLstF mNil))
 (nSeq (sFor (bdSeq 2 (bdCons (setV 6) (bdCons (setV 7) bdNil))) (mEnum (mVar 2))
 (sFor (setV 8) (mRng1 (mBin modD (mCall 2 F__law_mixed (mCons (mVar 1) (mCons (mBin addD (mC (.int 50)) (mVar 6)) mNil))) (mC (.int 4))))
 (sX (mApp 5 (mTup (mCons (mBin addD (mBin addD (mC (.int 6)) (mBin modD (mBin fdivD (mVar 1) (mC (.int 4))) (mC (.int 1000)))) (mVar 8)) (mCons (mVar 7) mNil)))))))
 (nSort 5 (mOwn 5)
 (nD (sSeq (sSet 9 (mOfF (mComp [] 1 (mIt (mVar 3)) (setV 0) (mTup (mCons (mVar 0) (mCons (mBin ixD (mOfF (mLstF (mCons (mTup (mCons (mC (.str [110, 117, 109])) mNil)) (mCons (mTup (mCons (mC (.str [118, 97, 114])) (mCons (mC (.int 5)) mNil))) (mCons (mTup (mCons (mC (.str [102, 117, 110])) (mCons (mTup (mCons (mC (.str [110, 117, 109])) mNil)) (mCons (mTup (mCons (mC (.str [110, 117, 109])) mNil)) mNil)))) mNil))))) (mBin modD (mUn lenD (mVar 0)) (mC (.int 3)))) mNil))))))
 (sSeq (sSet 10 (mTup (mCons (mC (.str [114, 111, 119])) (mCons (mTupOf (mAsL (mVar 9))) (mCons (mVar 4) mNil)))))
 (sSeq (sSet 11 (mOfF (mAsL (mVar 5))))
 (sSeq (sFor (setV 12) (mIt (mBin addD (mVar 2) (mOfF (mLstF (mCons (mC (.str [97])) (mCons (mC (.str [122, 122, 122, 122, 122, 122, 122, 122])) mNil))))))
 (sIf (mNotT (mTru (mCall 2 F__law_good (mCons (mCall 3 F_offset (mCons (mVar 10) (mCons (mVar 12) (mCons (mVar 11) mNil)))) (mCons (mCall 4 F__law_due (mCons (mVar 3) (mCons (mVar 4) (mCons (mVar 12) (mCons (mVar 5) mNil))))) mNil)))))
 (sRet (mC (.bl false)))
 sSkip))
 (sRet (mAnd (mBin eqT (mVar 11) (mVar 5)) (mBin eqT (mVar 10) (mTup (mCons (mC (.str [114, 111, 119])) (mCons (mTupOf (mAsL (mVar 9))) (mCons (mVar 4) mNil)))))))))))))))))))))
structure De (K : Fg) (mg : Str → Option Value) (n : Str) (i : Nat) (ps : List Str) where
  a : Addr
  d : FuncData
  F : Fun K n n (top i) a d
  m : mg n = some (.ref a)
  b : Binds K d ps []
abbrev Ok (P : Program) (w : World) {K : Fg} {mg : Str → Option Value} (base : Heap) {n : Str} {i : Nat} {ps : List Str} (D : De K mg n i ps) (k m : Nat) (F : MF) : Prop := FnOk P w K mg base CX0 k D.a D.d ps (spD K m F)
structure Txt (K : Fg) (mg : Str → Option Value) where
  d_parameter_of : De K mg "parameter_of" 2 ["tail", "label", "params"]
  d_offset : De K mg "offset" 1 ["row", "label", "params"]
  d__law_whole : De K mg "_law_whole" 4 ["_law_found"]
  d__law_mixed : De K mg "_law_mixed" 5 ["_law_cell", "_law_k"]
  d__law_word : De K mg "_law_word" 6 ["_law_number"]
  d__law_words : De K mg "_law_words" 7 ["_law_script"]
  d__law_good : De K mg "_law_good" 8 ["_law_found", "_law_due_here"]
  d__law_due : De K mg "_law_due" 9 ["_law_labels", "_law_tail", "_law_label", "_law_params"]
  d_law : De K mg "law" 10 ["_law_script"]
  z_bool : mg "bool" = none
  z_enumerate : mg "enumerate" = none
  z_int : mg "int" = none
  z_isinstance : mg "isinstance" = none
  z_len : mg "len" = none
  z_list : mg "list" = none
  z_range : mg "range" = none
  z_sorted : mg "sorted" = none
  z_tuple : mg "tuple" = none
section
variable {P : Program} {w : World} {K : Fg} {mg : Str → Option Value} {base : Heap}
theorem sc_parameter_of : FnScope ["tail", "label", "params", "number", "param"] ["tail", "label", "params"] (defScope (top 2)) := ⟨rfl, rfl, rfl, by decide +kernel, rfl, by decide +kernel, by decide +kernel⟩
theorem ok_parameter_of (T : Txt K mg) : Ok P w base T.d_parameter_of 1 3 F_parameter_of := by
  refine fn_d T.d_parameter_of.F sc_parameter_of 3 5 rfl rfl (g := g_parameter_of) (fun cdv A outer s H E hr => ?_)
  unfold g_parameter_of
  exact (by refine ds_cons ?_ ?_; exact (ds_for PassesOwn.never rfl (di_enum (by rfl) T.z_enumerate (de_var 2 (pv 2))) (dg_seq rfl (dgs_cons (dg_name 3 sc_parameter_of.nd) (dgs_cons (dg_name 4 sc_parameter_of.nd) dgs_nil))) (by refine ds_one ?_; exact (ds_if (dt_cmp (op_eqT (un2 hr)) od_eqT (de_var 4 (pv 4)) (by refine de_tup ?_; exact (da_cons (de_var 0 (pv 0)) (da_cons (de_var 1 (pv 1)) da_nil (hs := stName)) (hs := stName))) (nomark _)) (by refine ds_one ?_; exact (by refine ds_ret ?_; exact (de_var 3 (pv 3)))) ds_nil))); exact (by refine ds_one ?_; exact (by refine ds_ret ?_; exact de_non)))
theorem sc_offset : FnScope ["row", "label", "params"] ["row", "label", "params"] (defScope (top 1)) := ⟨rfl, rfl, rfl, by decide +kernel, rfl, by decide +kernel, by decide +kernel⟩
theorem ok_offset (T : Txt K mg) : Ok P w base T.d_offset 2 3 F_offset := by
  refine fn_d T.d_offset.F sc_offset 3 3 rfl rfl (g := g_offset) (fun cdv A outer s H E hr => ?_)
  unfold g_offset
  exact (by refine ds_one ?_; exact (by refine ds_ret ?_; exact (by refine de_tup ?_; exact (da_cons (de_len (by rfl) T.z_len (by refine de_f ?_; exact (df_compIf (N' := ["label", "other", "kind"]) (cap := [1]) rfl cmp_mk (di_seq (de_ix (de_var 0 (pv 0)) de_int)) (fun _ _ _ _ => (dg_seq rfl (dgs_cons (dg_name 1 (show (["label", "other", "kind"] : List Str).Nodup by decide +kernel)) (dgs_cons (dg_name 2 (show (["label", "other", "kind"] : List Str).Nodup by decide +kernel)) dgs_nil)))) (fun _ _ _ _ => by exact (dt_cmp op_ltA od_ltA (de_var 1 (pv 1)) (de_var 0 (pv 0)) (nomark _))) (fun _ _ _ _ => by exact (de_var 1 (pv 1))) 3))) (da_cons (de_call (ok_parameter_of T) (hr.mono (by decide)) (by rfl) T.d_parameter_of.m T.d_parameter_of.F.kp T.d_parameter_of.b (by refine da_cons (de_ix (de_var 0 (pv 0)) de_int) ?_ (hs := stSub); refine da_cons (de_var 1 (pv 1)) ?_ (hs := stName); refine da_cons (de_var 2 (pv 2)) ?_ (hs := stName); exact da_nil)) da_nil (hs := stCall)) (hs := stCall)))))
theorem sc__law_whole : FnScope ["_law_found"] ["_law_found"] (defScope (top 4)) := ⟨rfl, rfl, rfl, by decide +kernel, rfl, by decide +kernel, by decide +kernel⟩
theorem ok__law_whole (T : Txt K mg) : Ok P w base T.d__law_whole 1 1 F__law_whole := by
  refine fn_d T.d__law_whole.F sc__law_whole 1 1 rfl rfl (g := g__law_whole) (fun cdv A outer s H E hr => ?_)
  unfold g__law_whole
  exact (by refine ds_one ?_; exact (by refine ds_ret ?_; exact (de_and (de_isinst (by rfl) T.z_isinstance (de_var 0 (pv 0)) (pe_bltn (by rfl) T.z_int boot_int rfl)) (de_one (de_not (de_isinst (by rfl) T.z_isinstance (de_var 0 (pv 0)) (pe_bltn (by rfl) T.z_bool boot_bool rfl)))))))
theorem sc__law_mixed : FnScope ["_law_cell", "_law_k", "_law_number"] ["_law_cell", "_law_k"] (defScope (top 5)) := ⟨rfl, rfl, rfl, by decide +kernel, rfl, by decide +kernel, by decide +kernel⟩
theorem ok__law_mixed (T : Txt K mg) : Ok P w base T.d__law_mixed 1 2 F__law_mixed := by
  refine fn_d T.d__law_mixed.F sc__law_mixed 2 3 rfl rfl (g := g__law_mixed) (fun cdv A outer s H E hr => ?_)
  unfold g__law_mixed
  exact (by refine ds_cons ?_ ?_; exact (ds_set 2 (de_bin op_mod od_mod (de_bin op_plus od_plus (de_bin op_plus od_plus (de_bin op_mul od_mul (de_bin op_mod od_mod (de_var 0 (pv 0)) (de_bin op_pow od_pow de_int de_int)) de_int) (de_bin op_mul od_mul (de_bin op_mul od_mul (de_var 1 (pv 1)) (de_var 1 (pv 1))) de_int)) de_int) de_int) sc__law_mixed.nd); exact (by refine ds_one ?_; exact (by refine ds_ret ?_; exact (de_bin op_mod od_mod (de_bin op_mul od_mul (de_var 2 (pv 2)) (de_var 2 (pv 2))) de_int))))
theorem sc__law_word : FnScope ["_law_number", "_law_letters", "_law_word_here", "_law_k"] ["_law_number"] (defScope (top 6)) := ⟨rfl, rfl, rfl, by decide +kernel, rfl, by decide +kernel, by decide +kernel⟩
theorem ok__law_word (T : Txt K mg) : Ok P w base T.d__law_word 1 1 F__law_word := by
  refine fn_d T.d__law_word.F sc__law_word 1 4 rfl rfl (g := g__law_word) (fun cdv A outer s H E hr => ?_)
  unfold g__law_word
  exact (by refine ds_cons ?_ ?_; exact (ds_set 1 (de_str (s := [98, 99, 100, 103, 104, 106, 107, 108, 109, 110, 112, 113, 114, 115, 116, 118, 119, 120, 121, 122]) (by rfl)) sc__law_word.nd); exact (by refine ds_cons ?_ ?_; exact (ds_set 2 (de_str (s := []) (by rfl)) sc__law_word.nd); exact (by refine ds_cons ?_ ?_; exact (ds_for PassesOwn.never rfl (di_rng1 (by rfl) T.z_range (de_bin op_plus od_plus de_int (de_bin op_mod od_mod (de_var 0 (pv 0)) de_int))) (dg_name 3 sc__law_word.nd) (by refine ds_cons ?_ ?_; exact (ds_set 2 (de_bin op_plus od_plus (de_var 2 (pv 2)) (de_ix (de_var 1 (pv 1)) (de_bin op_mod od_mod (de_bin op_fdiv od_fdiv (de_var 0 (pv 0)) de_int) (de_ix (by refine de_f ?_; exact (by refine df_lst ?_; exact (by refine da_cons de_int ?_ (hs := stConst); refine da_cons de_int ?_ (hs := stConst); refine da_cons de_int ?_ (hs := stConst); refine da_cons de_int ?_ (hs := stConst); refine da_cons de_int ?_ (hs := stConst); refine da_cons de_int ?_ (hs := stConst); refine da_cons de_int ?_ (hs := stConst); refine da_cons de_int ?_ (hs := stConst); exact da_nil))) (de_var 3 (pv 3)))))) sc__law_word.nd); exact (by refine ds_one ?_; exact (ds_set 0 (de_bin op_fdiv od_fdiv (de_var 0 (pv 0)) de_int) sc__law_word.nd)))); exact (by refine ds_one ?_; exact (by refine ds_ret ?_; exact (de_var 2 (pv 2)))))))
theorem sc__law_words : FnScope ["_law_script", "_law_words_here", "_law_k", "_law_cell", "_law_word_here"] ["_law_script"] (defScope (top 7)) := ⟨rfl, rfl, rfl, by decide +kernel, rfl, by decide +kernel, by decide +kernel⟩
theorem ok__law_words (T : Txt K mg) : Ok P w base T.d__law_words 2 1 F__law_words := by
  refine fn_d T.d__law_words.F sc__law_words 1 5 rfl rfl (g := g__law_words) (fun cdv A outer s H E hr => ?_)
  unfold g__law_words
  exact (by refine ds_cons ?_ ?_; exact (ds_own 1 (by refine df_lst ?_; exact da_nil) sc__law_words.nd); exact (by refine ds_cons ?_ ?_; exact (ds_for PassesOwn.never rfl (di_enum (by rfl) T.z_enumerate (de_sl (de_var 0 (pv 0)) (do_some de_int) (do_some de_int))) (dg_seq rfl (dgs_cons (dg_name 2 sc__law_words.nd) (dgs_cons (dg_name 3 sc__law_words.nd) dgs_nil))) (by refine ds_cons ?_ ?_; exact (ds_set 4 (de_call (ok__law_word T) (hr.mono (by decide)) (by rfl) T.d__law_word.m T.d__law_word.F.kp T.d__law_word.b (da_cons (de_call (ok__law_mixed T) (hr.mono (by decide)) (by rfl) T.d__law_mixed.m T.d__law_mixed.F.kp T.d__law_mixed.b (da_cons (de_var 3 (pv 3)) (da_cons (de_var 2 (pv 2)) da_nil (hs := stName)) (hs := stName))) da_nil (hs := stCall))) sc__law_words.nd); exact (by refine ds_one ?_; exact (ds_if (dt_notInB (de_var 4 (pv 4)) (db_own 1 (pv 1))) (by refine ds_one ?_; exact (ds_x (dx_append 1 (pv 1) (de_var 4 (pv 4))))) ds_nil)))); exact (by refine ds_one ?_; exact (ds_retOwn 1 (pv 1)))))
theorem sc__law_good : FnScope ["_law_found", "_law_due_here"] ["_law_found", "_law_due_here"] (defScope (top 8)) := ⟨rfl, rfl, rfl, by decide +kernel, rfl, by decide +kernel, by decide +kernel⟩
theorem ok__law_good (T : Txt K mg) : Ok P w base T.d__law_good 2 2 F__law_good := by
  refine fn_d T.d__law_good.F sc__law_good 2 2 rfl rfl (g := g__law_good) (fun cdv A outer s H E hr => ?_)
  unfold g__law_good
  exact (by refine ds_cons ?_ ?_; exact (ds_if (dt_w (dw_or (dt_not (dt_tru (de_isinst (by rfl) T.z_isinstance (de_var 0 (pv 0)) (pe_bltn (by rfl) T.z_tuple boot_tuple rfl)))) (dw_or (dt_cmp (op_neA hr.units0) od_neA (de_len (by rfl) T.z_len (de_var 0 (pv 0))) de_int (nomark _)) (dw_or1 (dt_not (dt_tru (de_call (ok__law_whole T) (hr.mono (by decide)) (by rfl) T.d__law_whole.m T.d__law_whole.F.kp T.d__law_whole.b (da_cons (de_ix (de_var 0 (pv 0)) de_int) da_nil (hs := stSub))))))))) (by refine ds_one ?_; exact (by refine ds_ret ?_; exact de_bl)) ds_nil); exact (by refine ds_cons ?_ ?_; exact (ds_if (dt_w (dw_and (dt_cmp op_notN od_notN (de_ix (de_var 0 (pv 0)) de_int) de_non (nomark _)) (dw_and1 (dt_not (dt_tru (de_call (ok__law_whole T) (hr.mono (by decide)) (by rfl) T.d__law_whole.m T.d__law_whole.F.kp T.d__law_whole.b (da_cons (de_ix (de_var 0 (pv 0)) de_int) da_nil (hs := stSub)))))))) (by refine ds_one ?_; exact (by refine ds_ret ?_; exact de_bl)) ds_nil); exact (by refine ds_one ?_; exact (by refine ds_ret ?_; exact (de_cmp (op_eqT (un2 hr)) od_eqT (de_var 0 (pv 0)) (de_var 1 (pv 1)) (nomark _))))))
theorem sc__law_due : FnScope ["_law_labels", "_law_tail", "_law_label", "_law_params", "_law_lesser", "_law_word_here", "_law_k", "_law_pair"] ["_law_labels", "_law_tail", "_law_label", "_law_params"] (defScope (top 9)) := ⟨rfl, rfl, rfl, by decide +kernel, rfl, by decide +kernel, by decide +kernel⟩
theorem ok__law_due (T : Txt K mg) : Ok P w base T.d__law_due 1 4 F__law_due := by
  refine fn_d T.d__law_due.F sc__law_due 4 8 rfl rfl (g := g__law_due) (fun cdv A outer s H E hr => ?_)
  unfold g__law_due
  exact (by refine ds_cons ?_ ?_; exact (ds_set 4 de_int sc__law_due.nd); exact (by refine ds_cons ?_ ?_; exact (ds_for PassesOwn.never rfl (di_seq (de_var 0 (pv 0))) (dg_name 5 sc__law_due.nd) (by refine ds_one ?_; exact (ds_if (dt_cmp op_ltA od_ltA (de_var 5 (pv 5)) (de_var 2 (pv 2)) (nomark _)) (by refine ds_one ?_; exact (ds_set 4 (de_bin op_plus od_plus (de_var 4 (pv 4)) de_int) sc__law_due.nd)) ds_nil))); exact (by refine ds_cons ?_ ?_; exact (ds_if (dt_cmp op_isN od_isN (de_var 1 (pv 1)) de_non (nomark _)) (by refine ds_one ?_; exact (by refine ds_ret ?_; exact (by refine de_tup ?_; exact (da_cons (de_var 4 (pv 4)) (da_cons de_non da_nil (hs := stConst)) (hs := stName))))) ds_nil); exact (by refine ds_cons ?_ ?_; exact (ds_for PassesOwn.never rfl (di_enum (by rfl) T.z_enumerate (de_var 3 (pv 3))) (dg_seq rfl (dgs_cons (dg_name 6 sc__law_due.nd) (dgs_cons (dg_name 7 sc__law_due.nd) dgs_nil))) (by refine ds_one ?_; exact (ds_if (dt_cmp (op_eqT (un2 hr)) od_eqT (de_var 7 (pv 7)) (by refine de_tup ?_; exact (da_cons (de_var 1 (pv 1)) (da_cons (de_var 2 (pv 2)) da_nil (hs := stName)) (hs := stName))) (nomark _)) (by refine ds_one ?_; exact (by refine ds_ret ?_; exact (by refine de_tup ?_; exact (da_cons (de_var 4 (pv 4)) (da_cons (de_var 6 (pv 6)) da_nil (hs := stName)) (hs := stName))))) ds_nil))); exact (by refine ds_one ?_; exact (by refine ds_ret ?_; exact (by refine de_tup ?_; exact (da_cons (de_var 4 (pv 4)) (da_cons de_non da_nil (hs := stConst)) (hs := stName)))))))))
theorem sc_law : FnScope ["_law_script", "_law_first", "_law_words_here", "_law_labels", "_law_tail", "_law_pairs", "_law_k", "_law_word_here", "_law_j", "_law_fields", "_law_row", "_law_handed", "_law_label"] ["_law_script"] (defScope (top 10)) := ⟨rfl, rfl, rfl, by decide +kernel, rfl, by decide +kernel, by decide +kernel⟩
theorem ok_law (T : Txt K mg) : FnOk P w K mg base CX0 3 T.d_law.a T.d_law.d ["_law_script"] (spT K 1 13 g_law) := by
  refine fn_n T.d_law.F sc_law 1 13 rfl rfl (G := g_law) (by unfold g_law; exact (gr_seq (gr_seq (gr_seq (gr_sort (gr_seq (gr_seq (gr_seq (gr_seq (gr_sort (gr_d _))))))))))) (fun cdv A outer s H E hr => ?_)
  unfold g_law
  exact (by refine dn_cons ?_ ?_ (gr_seq (gr_seq (gr_sort (gr_seq (gr_seq (gr_seq (gr_seq (gr_sort (gr_d _))))))))); exact (ds_set 1 de_int sc_law.nd); exact (by refine dn_cons ?_ ?_ (gr_seq (gr_sort (gr_seq (gr_seq (gr_seq (gr_seq (gr_sort (gr_d _)))))))); exact (ds_if (dt_cmp op_gt od_gt (de_len (by rfl) T.z_len (de_var 0 (pv 0))) de_int (nomark _)) (by refine ds_one ?_; exact (ds_set 1 (de_call (ok__law_mixed T) (hr.mono (by decide)) (by rfl) T.d__law_mixed.m T.d__law_mixed.F.kp T.d__law_mixed.b (da_cons (de_ix (de_var 0 (pv 0)) de_int) (da_cons de_int da_nil (hs := stConst)) (hs := stSub))) sc_law.nd)) ds_nil); exact (by refine dn_cons ?_ ?_ (gr_sort (gr_seq (gr_seq (gr_seq (gr_seq (gr_sort (gr_d _))))))); exact (ds_set 2 (by refine de_f ?_; exact (df_call (ok__law_words T) (hr.mono (by decide)) (by rfl) T.d__law_words.m T.d__law_words.F.kp T.d__law_words.b (da_cons (de_var 0 (pv 0)) da_nil (hs := stName)))) sc_law.nd); exact (by refine dn_sort 3 (by rfl) T.z_sorted ?_ ?_ (gr_seq (gr_seq (gr_seq (gr_seq (gr_sort (gr_d _)))))) sc_law.nd; exact (by refine db_f ?_; exact (df_compIf (N' := ["_law_first", "_law_k", "_law_word_here"]) (cap := [1]) rfl cmp_mk (di_enum (by rfl) T.z_enumerate (de_var 2 (pv 2))) (fun _ _ _ _ => (dg_seq rfl (dgs_cons (dg_name 1 (show (["_law_first", "_law_k", "_law_word_here"] : List Str).Nodup by decide +kernel)) (dgs_cons (dg_name 2 (show (["_law_first", "_law_k", "_law_word_here"] : List Str).Nodup by decide +kernel)) dgs_nil)))) (fun _ _ _ _ => by exact (dt_cmp op_gt od_gt (de_bin op_mod od_mod (de_call (ok__law_mixed T) (hr.mono (by decide)) (by rfl) T.d__law_mixed.m T.d__law_mixed.F.kp T.d__law_mixed.b (by refine da_cons ?_ ?_; exact (de_var 0 (pv 0)); refine da_cons ?_ ?_; exact (de_var 1 (pv 1)); exact da_nil)) de_int) de_int (nomark _))) (fun _ _ _ _ => by exact (de_var 2 (pv 2))) 3)); exact (by refine dn_cons ?_ ?_ (gr_seq (gr_seq (gr_seq (gr_sort (gr_d _))))); exact (ds_set 4 de_non sc_law.nd); exact (by refine dn_cons ?_ ?_ (gr_seq (gr_seq (gr_sort (gr_d _)))); exact (ds_if (dt_cmp op_gt od_gt (de_bin op_mod od_mod (de_var 1 (pv 1)) de_int) de_int (nomark _)) (by refine ds_one ?_; exact (ds_set 4 (de_bin op_plus od_plus de_int (de_bin op_mod od_mod (de_bin op_fdiv od_fdiv (de_var 1 (pv 1)) de_int) de_int)) sc_law.nd)) ds_nil); exact (by refine dn_cons ?_ ?_ (gr_seq (gr_sort (gr_d _))); exact (ds_own 5 (by refine df_lst ?_; exact da_nil) sc_law.nd); exact (by refine dn_cons ?_ ?_ (gr_sort (gr_d _)); exact (ds_for PassesOwn.never rfl (di_enum (by rfl) T.z_enumerate (de_var 2 (pv 2))) (dg_seq rfl (dgs_cons (dg_name 6 sc_law.nd) (dgs_cons (dg_name 7 sc_law.nd) dgs_nil))) (by refine ds_one ?_; exact (ds_for PassesOwn.never rfl (di_rng1 (by rfl) T.z_range (de_bin op_mod od_mod (de_call (ok__law_mixed T) (hr.mono (by decide)) (by rfl) T.d__law_mixed.m T.d__law_mixed.F.kp T.d__law_mixed.b (da_cons (de_var 1 (pv 1)) (da_cons (de_bin op_plus od_plus de_int (de_var 6 (pv 6))) da_nil (hs := stBin)) (hs := stName))) de_int)) (dg_name 8 sc_law.nd) (by refine ds_one ?_; exact (ds_x (dx_append 5 (pv 5) (by refine de_tup ?_; exact (da_cons (de_bin op_plus od_plus (de_bin op_plus od_plus de_int (de_bin op_mod od_mod (de_bin op_fdiv od_fdiv (de_var 1 (pv 1)) de_int) de_int)) (de_var 8 (pv 8))) (da_cons (de_var 7 (pv 7)) da_nil (hs := stName)) (hs := stBin))))))))); exact (by refine dn_sort 5 (by rfl) T.z_sorted ?_ ?_ (gr_d _) sc_law.nd; exact (db_own 5 (pv 5)); exact (by refine dn_d ?_; exact (by refine ds_cons ?_ ?_; exact (ds_comp 9 (N' := ["_law_word_here"]) (cap := []) rfl cmp_mk (di_seq (de_var 3 (pv 3))) (fun _ _ _ _ => (dg_name 0 (show (["_law_word_here"] : List Str).Nodup by decide +kernel))) (fun _ _ _ _ => by exact (by refine de_tup ?_; exact (by refine da_cons ?_ ?_; exact (de_var 0 (pv 0)); refine da_cons ?_ ?_; exact (by refine de_ix ?_ ?_; exact (by refine de_f ?_; exact (by refine df_lst ?_; exact (by refine da_cons ?_ ?_; exact (by refine de_tup ?_; exact (by refine da_cons ?_ ?_; exact (de_str (s := [110, 117, 109]) (by rfl)); exact da_nil)); refine da_cons ?_ ?_; exact (by refine de_tup ?_; exact (by refine da_cons ?_ ?_; exact (de_str (s := [118, 97, 114]) (by rfl)); refine da_cons ?_ ?_; exact de_int; exact da_nil)); refine da_cons ?_ ?_; exact (by refine de_tup ?_; exact (by refine da_cons ?_ ?_; exact (de_str (s := [102, 117, 110]) (by rfl)); refine da_cons ?_ ?_; exact (by refine de_tup ?_; exact (by refine da_cons ?_ ?_; exact (de_str (s := [110, 117, 109]) (by rfl)); exact da_nil)); refine da_cons ?_ ?_; exact (by refine de_tup ?_; exact (by refine da_cons ?_ ?_; exact (de_str (s := [110, 117, 109]) (by rfl)); exact da_nil)); exact da_nil)); exact da_nil))); exact (de_bin op_mod od_mod (de_len (by rfl) (by exact T.z_len) (de_var 0 (pv 0))) de_int)); exact da_nil))) 1 sc_law.nd); exact (by refine ds_cons ?_ ?_; exact (ds_set 10 (by refine de_tup ?_; exact (by refine da_cons (de_str (s := [114, 111, 119]) (by rfl)) ?_ (hs := stConst); refine da_cons (de_tupleOf (by rfl) T.z_tuple (db_e (de_var 9 (pv 9)))) ?_ (hs := stCall); refine da_cons (de_var 4 (pv 4)) ?_ (hs := stName); exact da_nil)) sc_law.nd); exact (by refine ds_cons ?_ ?_; exact (ds_set 11 (by refine de_f ?_; exact (df_listOf (by rfl) T.z_list (db_e (de_var 5 (pv 5))))) sc_law.nd); exact (by refine ds_cons ?_ ?_; exact (ds_for PassesOwn.never rfl (di_seq (de_bin op_plus od_plus (de_var 2 (pv 2)) (by refine de_f ?_; exact (by refine df_lst ?_; exact (da_cons (de_str (s := [97]) (by rfl)) (da_cons (de_str (s := [122, 122, 122, 122, 122, 122, 122, 122]) (by rfl)) da_nil (hs := stConst)) (hs := stConst)))))) (dg_name 12 sc_law.nd) (by refine ds_one ?_; exact (ds_if (dt_not (dt_tru (de_call (ok__law_good T) (hr.mono (by decide)) (by rfl) T.d__law_good.m T.d__law_good.F.kp T.d__law_good.b (da_cons (de_call (ok_offset T) (hr.mono (by decide)) (by rfl) T.d_offset.m T.d_offset.F.kp T.d_offset.b (by refine da_cons (de_var 10 (pv 10)) ?_ (hs := stName); refine da_cons (de_var 12 (pv 12)) ?_ (hs := stName); refine da_cons (de_var 11 (pv 11)) ?_ (hs := stName); exact da_nil)) (da_cons (de_call (ok__law_due T) (hr.mono (by decide)) (by rfl) T.d__law_due.m T.d__law_due.F.kp T.d__law_due.b (by refine da_cons (de_var 3 (pv 3)) ?_ (hs := stName); refine da_cons (de_var 4 (pv 4)) ?_ (hs := stName); refine da_cons (de_var 12 (pv 12)) ?_ (hs := stName); refine da_cons (de_var 5 (pv 5)) ?_ (hs := stName); exact da_nil)) da_nil (hs := stCall)) (hs := stCall))))) (by refine ds_one ?_; exact (by refine ds_ret ?_; exact de_bl)) ds_nil))); exact (by refine ds_one ?_; exact (by refine ds_ret ?_; exact (de_and (de_cmp (op_eqT (un2 hr)) od_eqT (de_var 11 (pv 11)) (de_var 5 (pv 5)) (nomark _)) (de_one (de_cmp (op_eqT (un2 hr)) od_eqT (de_var 10 (pv 10)) (by refine de_tup ?_; exact (by refine da_cons (de_str (s := [114, 111, 119]) (by rfl)) ?_ (hs := stConst); refine da_cons (de_tupleOf (by rfl) T.z_tuple (db_e (de_var 9 (pv 9)))) ?_ (hs := stCall); refine da_cons (de_var 4 (pv 4)) ?_ (hs := stName); exact da_nil)) (nomark _))))))))))))))))))))
end
theorem mixed_eq (c : Int) {k : Int} (h0 : 0 ≤ k) (h1 : k ≤ 1000) : ∃ n : Int, 0 ≤ n ∧ ∃ as, F__law_mixed [.v (.int c), .v (.int k)] = some (.v (.int n), as) := by
  let m1 : Int := c % 10 ^ 18
  let n1 : Int := (m1 * 48271 + k * k * 7919 + 101) % 2147483647
  have hm : 0 ≤ m1 ∧ m1 < 10 ^ 18 := ⟨Int.emod_nonneg _ (by decide), Int.emod_lt_of_pos _ (by decide)⟩
  have hn : 0 ≤ n1 ∧ n1 < 2147483647 := ⟨Int.emod_nonneg _ (by decide), Int.emod_lt_of_pos _ (by decide)⟩
  have kk : 0 ≤ k * k ∧ k * k ≤ 1000 * 1000 := ⟨Int.mul_nonneg h0 h0, Int.mul_le_mul h1 h1 h0 (by decide)⟩
  refine ⟨n1 * n1 % 2147483629, Int.emod_nonneg _ (by decide), mk_rt (r' := [.v (.int c), .v (.int k), .v (.int n1)]) ?_⟩
  show g__law_mixed [.v (.int c), .v (.int k), .un] = _
  unfold g__law_mixed
  have p18 : mBin powD (mC (.int 10)) (mC (.int 18)) [.v (.int c), .v (.int k), .un] = some (.int (10 ^ 18)) := bin_of con_of con_of (by simp [powD])
  have e1 : mBin mulD (mBin modD (mVar 0) (mBin powD (mC (.int 10)) (mC (.int 18)))) (mC (.int 48271)) [.v (.int c), .v (.int k), .un] = some (.int (m1 * 48271)) := mul_of (mod_of rfl p18 (by decide)) con_of (by omega)
  have e2 : mBin mulD (mBin mulD (mVar 1) (mVar 1)) (mC (.int 7919)) [.v (.int c), .v (.int k), .un] = some (.int (k * k * 7919)) := mul_of (mul_of rfl rfl (by omega)) con_of (by omega)
  refine seq_set (.int n1) (mod_of (add_of (add_of e1 e2) con_of) con_of (by decide)) (r2 := [.v (.int c), .v (.int k), .v (.int n1)]) (by rfl) ?_
  exact ret_of (mod_of (mul_of rfl rfl (by omega)) con_of (by decide))
def lw (s : List Nat) : Prop := ∀ c ∈ s, c ≤ 122
def abc : List Nat := [98, 99, 100, 103, 104, 106, 107, 108, 109, 110, 112, 113, 114, 115, 116, 118, 119, 120, 121, 122]
theorem abc_at {i : Int} (h0 : 0 ≤ i) (h : i < 20) : ∃ c, c ≤ 122 ∧ ixD (.str abc) (.int i) = some (.str [c]) := by
  obtain ⟨j, rfl⟩ := Int.eq_ofNat_of_zero_le h0; have hj : j < abc.length := by show j < 20; omega
  have a : ∀ c ∈ abc, c ≤ 122 := by decide
  refine ⟨abc[j], a _ (List.getElem_mem hj), ?_⟩
  show (if abc.length ≤ sizeLine then (atI abc (j : Int)).map fun c => D.str [c] else none) = _
  rw [if_pos (by decide), atI_nat (List.getElem?_eq_getElem hj)]; rfl
def wid : List D := [.int 20, .int 2, .int 2, .int 20, .int 2, .int 3, .int 2, .int 2]
theorem wid_at : ∀ j : Nat, j < 8 → ∃ m : Nat, 0 < m ∧ m ≤ 20 ∧ wid[j]? = some (.int (m : Int))
  | 0, _ => ⟨20, by decide, by decide, rfl⟩
  | 1, _ => ⟨2, by decide, by decide, rfl⟩
  | 2, _ => ⟨2, by decide, by decide, rfl⟩
  | 3, _ => ⟨20, by decide, by decide, rfl⟩
  | 4, _ => ⟨2, by decide, by decide, rfl⟩
  | 5, _ => ⟨3, by decide, by decide, rfl⟩
  | 6, _ => ⟨2, by decide, by decide, rfl⟩
  | 7, _ => ⟨2, by decide, by decide, rfl⟩
  | j + 8, h => absurd h (by omega)
def bodyW : MS := (sSeq (sSet 2 (mBin addD (mVar 2) (mBin ixD (mVar 1) (mBin modD (mBin fdivD (mVar 0) (mC (.int 8))) (mBin ixD (mOfF (mLstF (mCons (mC (.int 20)) (mCons (mC (.int 2)) (mCons (mC (.int 2)) (mCons (mC (.int 20)) (mCons (mC (.int 2)) (mCons (mC (.int 3)) (mCons (mC (.int 2)) (mCons (mC (.int 2)) mNil)))))))))) (mVar 3))))))
 (sSet 0 (mBin fdivD (mVar 0) (mC (.int 3)))))
theorem word_loop : ∀ (ks : List Nat) (n : Int) (s : List Nat) (x : Sl), (∀ k ∈ ks, k < 8) → lw s → s.length + ks.length ≤ 8 → fre x →
    ∃ n' t x', lw t ∧ t.length ≤ 8 ∧ forL (setV 3) bodyW (ks.map fun k => .int ((0 : Int) + (k : Nat))) [.v (.int n), .v (.str abc), .v (.str s), x] = some (.nx [.v (.int n'), .v (.str abc), .v (.str t), x'])
  | [], n, s, x, _, h, hl, _ => ⟨n, s, x, h, by simpa using hl, rfl⟩
  | k :: ks, n, s, x, hk, h, hl, hx => by
    rw [List.length_cons] at hl
    obtain ⟨m, m0, m20, em⟩ := wid_at k (hk k (by simp))
    have q0 : 0 ≤ n / 8 % (m : Int) := Int.emod_nonneg _ (by omega)
    have q1 : n / 8 % (m : Int) < (m : Int) := Int.emod_lt_of_pos _ (by omega)
    obtain ⟨c, c1, hc⟩ := abc_at q0 (by omega)
    obtain ⟨n', t, x', t1, t2, t3⟩ := word_loop ks (n / 3) (s ++ [c]) (.v (.int ((0 : Int) + (k : Nat)))) (fun j hj => hk j (by simp [hj])) (fun d hd => by
      rcases List.mem_append.mp hd with z | z
      · exact h d z
      · simp at z; omega) (by simp; omega) trivial
    refine ⟨n', t, x', t1, t2, ?_⟩
    have lst : mOfF (mLstF (mCons (mC (.int 20)) (mCons (mC (.int 2)) (mCons (mC (.int 2)) (mCons (mC (.int 20)) (mCons (mC (.int 2)) (mCons (mC (.int 3)) (mCons (mC (.int 2)) (mCons (mC (.int 2)) mNil))))))))) [.v (.int n), .v (.str abc), .v (.str s), .v (.int ((0 : Int) + (k : Nat)))] = some (.lst wid) := rfl
    have e1 : mBin ixD (mOfF (mLstF (mCons (mC (.int 20)) (mCons (mC (.int 2)) (mCons (mC (.int 2)) (mCons (mC (.int 20)) (mCons (mC (.int 2)) (mCons (mC (.int 3)) (mCons (mC (.int 2)) (mCons (mC (.int 2)) mNil)))))))))) (mVar 3) [.v (.int n), .v (.str abc), .v (.str s), .v (.int ((0 : Int) + (k : Nat)))] = some (.int (m : Int)) := bin_of lst (y := .int ((0 : Int) + (k : Nat))) rfl (by rw [show ((0 : Int) + (k : Nat)) = (k : Nat) by omega]; exact atI_nat em)
    have b : bodyW [.v (.int n), .v (.str abc), .v (.str s), .v (.int ((0 : Int) + (k : Nat)))] = some (.nx [.v (.int (n / 3)), .v (.str abc), .v (.str (s ++ [c])), .v (.int ((0 : Int) + (k : Nat)))]) := by
      unfold bodyW
      rw [seq_of (sSet_of (d := .str (s ++ [c])) (r2 := [.v (.int n), .v (.str abc), .v (.str (s ++ [c])), .v (.int ((0 : Int) + (k : Nat)))]) (bin_of (x := .str s) rfl (bin_of (x := .str abc) rfl (mod_of (fdiv_of (i := n) rfl con_of (by decide)) e1 (by omega)) hc) (str_add (by show _ + 1 ≤ _; omega))) (by rfl))]
      exact sSet_of (d := .int (n / 3)) (fdiv_of (i := n) rfl con_of (by decide)) (by rfl)
    rw [List.map_cons, for_go (setV_fre (x := x) rfl hx) b, t3]
theorem word_eq {n : Int} : ∃ s, lw s ∧ s.length ≤ 8 ∧ ∃ as, F__law_word [.v (.int n)] = some (.v (.str s), as) := by
  have m0 : 0 ≤ n % 8 := Int.emod_nonneg _ (by decide)
  have m8 : n % 8 < 8 := Int.emod_lt_of_pos _ (by decide)
  obtain ⟨k, hk⟩ := Int.eq_ofNat_of_zero_le m0
  obtain ⟨n', t, x', t1, t2, t3⟩ := word_loop (List.range (1 + k)) n [] .un (fun j hj => by have := List.mem_range.mp hj; omega) (fun c hc => by simp at hc) (by simp; omega) trivial
  refine ⟨t, t1, t2, mk_rt (r' := [.v (.int n'), .v (.str abc), .v (.str t), x']) ?_⟩
  show g__law_word [.v (.int n), .un, .un, .un] = _
  unfold g__law_word
  refine seq_set (.str abc) con_of (r2 := [.v (.int n), .v (.str abc), .un, .un]) (by rfl) ?_
  refine seq_set (.str []) con_of (r2 := [.v (.int n), .v (.str abc), .v (.str []), .un]) (by rfl) ?_
  have rg : mBin addD (mC (.int 1)) (mBin modD (mVar 0) (mC (.int 8))) [.v (.int n), .v (.str abc), .v (.str []), .un] = some (.int ((1 + k : Nat) : Int)) := by
    rw [add_of con_of (mod_of (i := n) rfl con_of (by decide)), hk]; rfl
  have fe : sFor (setV 3) (mRng1 (mBin addD (mC (.int 1)) (mBin modD (mVar 0) (mC (.int 8))))) bodyW [.v (.int n), .v (.str abc), .v (.str []), .un] = some (.nx [.v (.int n'), .v (.str abc), .v (.str t), x']) := by
    unfold sFor
    rw [rng_of rg (by omega)]
    exact t3
  unfold bodyW at fe
  rw [seq_of fe]
  exact ret_of rfl
def bodyV : MS := (sSeq (sSet 4 (mCall 1 F__law_word (mCons (mCall 2 F__law_mixed (mCons (mVar 3) (mCons (mVar 2) mNil))) mNil)))
 (sIf (mInB true (mVar 4) (mOwn 1))
 (sX (mApp 1 (mVar 4)))
 sSkip))
def cel (p : Int × Nat) : D := .tup [.int (p.2 : Nat), .int p.1]
def Wds (ws : List (List Nat)) : Prop := ∀ w ∈ ws, lw w ∧ w.length ≤ 8
theorem flat_strs : ∀ l : List (List Nat), (l.map D.str).all flatD = true
  | [] => rfl
  | x :: l => by rw [List.map_cons, List.all_cons, flat_strs l]; rfl
theorem inB_of {neg : Bool} {f : ME} {fl : ML} {r : En} {x : List Nat} {l : List (List Nat)} (e1 : f r = some (.str x)) (e2 : fl r = some (l.map D.str)) : ∃ b, mInB neg f fl r = some b := by
  unfold mInB
  rw [e1, Option.bind_some, e2, Option.bind_some]
  refine ⟨if neg then !((l.map D.str).any fun z => eqF z (.str x)) else (l.map D.str).any fun z => eqF z (.str x), ?_⟩
  unfold inD
  dsimp only
  rw [if_pos ⟨rfl, flat_strs _⟩]
  rfl
theorem words_loop {S : D} : ∀ (L : List (Int × Nat)) (A : List (List Nat)) (x y z : Sl), (∀ p ∈ L, p.2 ≤ 100) → Wds A → A.length + L.length ≤ 500 → fre x → fre y → fre z →
    ∃ ws x' y' z', Wds ws ∧ ws.length ≤ A.length + L.length ∧ forL (bdSeq 2 (bdCons (setV 2) (bdCons (setV 3) bdNil))) bodyV (L.map cel) [.v S, .o (A.map D.str), x, y, z] = some (.nx [.v S, .o (ws.map D.str), x', y', z'])
  | [], A, x, y, z, _, h, hl, _, _, _ => ⟨A, x, y, z, h, by simp, rfl⟩
  | p :: L, A, x, y, z, hp, h, hl, hx, hy, hz => by
    rw [List.length_cons] at hl
    have p1 := hp p (by simp)
    obtain ⟨n, n0, hn⟩ := mixed_eq p.1 (k := (p.2 : Nat)) (by omega) (by omega)
    obtain ⟨w, w1, w2, hw⟩ := word_eq (n := n)
    have e1 : bdSeq 2 (bdCons (setV 2) (bdCons (setV 3) bdNil)) (cel p) [.v S, .o (A.map D.str), x, y, z] = some [.v S, .o (A.map D.str), .v (.int (p.2 : Nat)), .v (.int p.1), z] := bdP (r1 := [.v S, .o (A.map D.str), .v (.int (p.2 : Nat)), y, z]) (setV_fre (x := x) rfl hx) (setV_fre (x := y) rfl hy)
    have e2 : mCall 1 F__law_word (mCons (mCall 2 F__law_mixed (mCons (mVar 3) (mCons (mVar 2) mNil))) mNil) [.v S, .o (A.map D.str), .v (.int (p.2 : Nat)), .v (.int p.1), z] = some (.str w) := call_of (p := .v (.str w)) (cons_of (call_of (p := .v (.int n)) (cons_of rfl (cons_of rfl nil_of)) rfl hn) nil_of) rfl hw
    obtain ⟨b, eb⟩ := inB_of (neg := true) (f := mVar 4) (fl := mOwn 1) (r := [.v S, .o (A.map D.str), .v (.int (p.2 : Nat)), .v (.int p.1), .v (.str w)]) (x := w) (l := A) rfl rfl
    cases b with
    | true =>
      obtain ⟨ws, x', y', z', q1, q2, q3⟩ := words_loop (S := S) L (A ++ [w]) (.v (.int (p.2 : Nat))) (.v (.int p.1)) (.v (.str w)) (fun q hq => hp q (by simp [hq])) (fun u hu => by
        rcases List.mem_append.mp hu with g | g
        · exact h u g
        · simp at g; subst g; exact ⟨w1, w2⟩) (by simp; omega) trivial trivial trivial
      refine ⟨ws, x', y', z', q1, by simp at q2 ⊢; omega, ?_⟩
      have bd : bodyV [.v S, .o (A.map D.str), .v (.int (p.2 : Nat)), .v (.int p.1), z] = some (.nx [.v S, .o ((A ++ [w]).map D.str), .v (.int (p.2 : Nat)), .v (.int p.1), .v (.str w)]) := by
        unfold bodyV
        rw [seq_of (sSet_of (r2 := [.v S, .o (A.map D.str), .v (.int (p.2 : Nat)), .v (.int p.1), .v (.str w)]) e2 (setV_fre (x := z) rfl hz)), sIf_t eb, List.map_append]
        exact sX_of (d := .non) (app_of (S := A.map D.str) rfl rfl (by rw [List.length_map]; exact Nat.lt_of_le_of_lt (by omega : A.length ≤ 500) (by decide)))
      rw [List.map_cons, for_go e1 bd, q3]
    | false =>
      obtain ⟨ws, x', y', z', q1, q2, q3⟩ := words_loop (S := S) L A (.v (.int (p.2 : Nat))) (.v (.int p.1)) (.v (.str w)) (fun q hq => hp q (by simp [hq])) h (by omega) trivial trivial trivial
      refine ⟨ws, x', y', z', q1, by rw [List.length_cons]; omega, ?_⟩
      have bd : bodyV [.v S, .o (A.map D.str), .v (.int (p.2 : Nat)), .v (.int p.1), z] = some (.nx [.v S, .o (A.map D.str), .v (.int (p.2 : Nat)), .v (.int p.1), .v (.str w)]) := by
        unfold bodyV
        rw [seq_of (sSet_of (r2 := [.v S, .o (A.map D.str), .v (.int (p.2 : Nat)), .v (.int p.1), .v (.str w)]) e2 (setV_fre (x := z) rfl hz)), sIf_f eb]
        rfl
      rw [List.map_cons, for_go e1 bd, q3]
theorem enum_ints (cs : List Int) : enumD (cs.map D.int) = cs.zipIdx.map cel := by
  unfold enumD
  rw [List.zipIdx_map, List.map_map]; rfl
theorem zip_le {α : Type} {l : List α} {p : α × Nat} (h : p ∈ l.zipIdx) : p.2 < l.length := by
  have := List.snd_lt_of_mem_zipIdx h
  simpa using this
theorem words_eq {ns : List Int} : ∃ ws, Wds ws ∧ ws.length ≤ 40 ∧ ∃ as, F__law_words [.v (.lst (ns.map D.int))] = some (.f (ws.map D.str), as) := by
  let cs : List Int := (ns.take 42).drop 2
  have cl : cs.length ≤ 40 := by show ((ns.take 42).drop 2).length ≤ 40; rw [List.length_drop, List.length_take]; omega
  obtain ⟨ws, x', y', z', q1, q2, q3⟩ := words_loop (S := .lst (ns.map D.int)) cs.zipIdx [] .un .un .un (fun p hp => by have := zip_le hp; omega) (fun w hw => by simp at hw) (by simp; omega) trivial trivial trivial
  refine ⟨ws, q1, by simp at q2; omega, ?_⟩
  unfold F__law_words mkF
  show ∃ as, (g__law_words [.v (.lst (ns.map D.int)), .un, .un, .un, .un]).bind _ = _
  unfold g__law_words
  rw [seq_of (r' := [.v (.lst (ns.map D.int)), .o [], .un, .un, .un]) (by rfl)]
  have sl : mSl (mVar 0) (oSome (mC (.int 2))) (oSome (mC (.int 42))) [.v (.lst (ns.map D.int)), .o [], .un, .un, .un] = some (.lst (cs.map D.int)) := by
    refine sl_of (x := .lst (ns.map D.int)) rfl (osome_of con_of) (osome_of con_of) ?_
    show some (D.lst (cutL (ns.map D.int) (some ((2 : Nat) : Int)) (some ((42 : Nat) : Int)))) = _
    rw [cut_mid]
    show some (D.lst (((ns.map D.int).take 42).drop 2)) = some (D.lst (((ns.take 42).drop 2).map D.int))
    rw [List.map_drop, List.map_take]
  have fe : sFor (bdSeq 2 (bdCons (setV 2) (bdCons (setV 3) bdNil))) (mEnum (mSl (mVar 0) (oSome (mC (.int 2))) (oSome (mC (.int 42))))) bodyV [.v (.lst (ns.map D.int)), .o [], .un, .un, .un] = some (.nx [.v (.lst (ns.map D.int)), .o (ws.map D.str), x', y', z']) := by
    unfold sFor mEnum
    rw [sl, Option.bind_some]
    show (some (enumD (cs.map D.int))).bind _ = _
    rw [enum_ints]
    exact q3
  unfold bodyV at fe
  rw [seq_of fe]
  exact ⟨_, rfl⟩
theorem strOk_lw {s : List Nat} (h : lw s) : PyData.strOk ⟨s.toArray⟩ = true := by
  unfold PyData.strOk
  rw [Array.all_eq_true_iff_forall_mem]
  intro c hc
  have := h c (by simpa using hc)
  simp only [decide_eq_true_eq]
  omega
def Tl (t : D) : Prop := t = .non ∨ ∃ i, t = .int i
theorem lay_pair {t : D} {s : List Nat} (ht : Tl t) (hs : lw s) : layD (.tup [t, .str s]) = true := by
  have := strOk_lw hs
  rcases ht with rfl | ⟨i, rfl⟩ <;> simp [layD, okD, okDs, toP, toPs, PyData.canLay0, PyData.canLayAll0, PyData.depth, PyData.depthAll, this]
theorem lay_two {a b : D} (ha : Tl a) (hb : Tl b) : layD (.tup [a, b]) = true := by
  rcases ha with rfl | ⟨i, rfl⟩ <;> rcases hb with rfl | ⟨j, rfl⟩ <;> simp [layD, okD, okDs, toP, toPs, PyData.canLay0, PyData.canLayAll0, PyData.depth, PyData.depthAll]
def hit (t : D) (lb : List Nat) (p : D) : Bool := PyData.eqv (toP p) (toP (.tup [t, .str lb]))
def firstAt (t : D) (lb : List Nat) : Nat → List D → D
  | _, [] => .non
  | i, p :: r => if hit t lb p = true then .int (i : Nat) else firstAt t lb (i + 1) r
theorem firstAt_tl (t : D) (lb : List Nat) : ∀ (i : Nat) (P : List D), Tl (firstAt t lb i P)
  | _, [] => .inl rfl
  | i, p :: r => by
    unfold firstAt
    split
    · exact .inr ⟨_, rfl⟩
    · exact firstAt_tl t lb (i + 1) r
def Prs (P : List D) : Prop := ∀ p ∈ P, ∃ i s, p = .tup [.int i, .str s] ∧ lw s
theorem eq_hit {t p : D} {lb : List Nat} (ht : Tl t) (hl : lw lb) (hp : ∃ i s, p = .tup [.int i, .str s] ∧ lw s) : eqT p (.tup [t, .str lb]) = some (.bl (hit t lb p)) := by
  obtain ⟨i, s, rfl, hs⟩ := hp
  exact if_pos ⟨lay_pair (.inr ⟨i, rfl⟩) hs, lay_pair ht hl⟩
theorem none_hit {p : D} {lb : List Nat} (hp : ∃ i s, p = .tup [.int i, .str s] ∧ lw s) : hit .non lb p = false := by
  obtain ⟨i, s, rfl, hs⟩ := hp
  unfold hit
  simp [toP, toPs, PyData.eqv, PyData.eqvAll]
theorem firstAt_none {lb : List Nat} : ∀ (i : Nat) (P : List D), Prs P → firstAt .non lb i P = .non
  | _, [], _ => rfl
  | i, p :: r, h => by
    unfold firstAt
    rw [none_hit (h p (by simp)), if_neg (by simp)]
    exact firstAt_none (i + 1) r fun q hq => h q (by simp [hq])
def enp (i : Nat) (P : List D) : List D := (P.zipIdx i).map fun p => .tup [.int (p.2 : Nat), p.1]
theorem enp_cons (i : Nat) (p : D) (P : List D) : enp i (p :: P) = .tup [.int (i : Nat), p] :: enp (i + 1) P := by unfold enp; rw [List.zipIdx_cons]; rfl
def bodyP : MS := (sIf (mBl (mBin eqT (mVar 4) (mTup (mCons (mVar 0) (mCons (mVar 1) mNil)))))
 (sRet (mVar 3))
 sSkip)
theorem par_loop {t A : D} {lb : List Nat} (ht : Tl t) (hl : lw lb) : ∀ (P : List D) (i : Nat) (x y : Sl), Prs P → fre x → fre y →
    (∃ r', forL (bdSeq 2 (bdCons (setV 3) (bdCons (setV 4) bdNil))) bodyP (enp i P) [.v t, .v (.str lb), .v A, x, y] = some (.rt (firstAt t lb i P) r')) ∨
    (firstAt t lb i P = .non ∧ ∃ x' y', forL (bdSeq 2 (bdCons (setV 3) (bdCons (setV 4) bdNil))) bodyP (enp i P) [.v t, .v (.str lb), .v A, x, y] = some (.nx [.v t, .v (.str lb), .v A, x', y']))
  | [], i, x, y, _, _, _ => .inr ⟨rfl, x, y, rfl⟩
  | p :: P, i, x, y, h, hx, hy => by
    have e1 : bdSeq 2 (bdCons (setV 3) (bdCons (setV 4) bdNil)) (.tup [.int (i : Nat), p]) [.v t, .v (.str lb), .v A, x, y] = some [.v t, .v (.str lb), .v A, .v (.int (i : Nat)), .v p] := bdP (r1 := [.v t, .v (.str lb), .v A, .v (.int (i : Nat)), y]) (setV_fre (x := x) rfl hx) (setV_fre (x := y) rfl hy)
    have e2 : mBl (mBin eqT (mVar 4) (mTup (mCons (mVar 0) (mCons (mVar 1) mNil)))) [.v t, .v (.str lb), .v A, .v (.int (i : Nat)), .v p] = some (hit t lb p) := bl_of (bin_of (x := p) rfl (tup_of (cons_of rfl (cons_of rfl nil_of)) (by show 2 ≤ 100; decide)) (eq_hit ht hl (h p (by simp))))
    rw [enp_cons]
    cases hh : hit t lb p with
    | true =>
      rw [hh] at e2
      refine .inl ⟨[.v t, .v (.str lb), .v A, .v (.int (i : Nat)), .v p], ?_⟩
      unfold firstAt
      rw [hh, if_pos rfl]
      exact for_rt e1 (by unfold bodyP; rw [sIf_t e2]; rfl)
    | false =>
      rw [hh] at e2
      have e3 : firstAt t lb i (p :: P) = firstAt t lb (i + 1) P := by
        conv => lhs; unfold firstAt
        rw [hh, if_neg (by simp)]
      rw [e3, for_go e1 (r' := [.v t, .v (.str lb), .v A, .v (.int (i : Nat)), .v p]) (by unfold bodyP; rw [sIf_f e2]; rfl)]
      exact par_loop ht hl P (i + 1) (.v (.int (i : Nat))) (.v p) (fun q hq => h q (by simp [hq])) trivial trivial
theorem par_eq {t : D} {lb : List Nat} {P : List D} (ht : Tl t) (hl : lw lb) (hp : Prs P) : ∃ as, F_parameter_of [.v t, .v (.str lb), .v (.lst P)] = some (.v (firstAt t lb 0 P), as) := by
  rcases par_loop (A := .lst P) ht hl P 0 .un .un hp trivial trivial with ⟨r', e⟩ | ⟨e0, x', y', e⟩
  · refine mk_rt (r' := r') ?_
    show g_parameter_of [.v t, .v (.str lb), .v (.lst P), .un, .un] = _
    unfold g_parameter_of
    have fe : sFor (bdSeq 2 (bdCons (setV 3) (bdCons (setV 4) bdNil))) (mEnum (mVar 2)) bodyP [.v t, .v (.str lb), .v (.lst P), .un, .un] = some (.rt (firstAt t lb 0 P) r') := e
    unfold bodyP at fe
    exact seq_rt fe
  · refine mk_rt (r' := [.v t, .v (.str lb), .v (.lst P), x', y']) ?_
    show g_parameter_of [.v t, .v (.str lb), .v (.lst P), .un, .un] = _
    unfold g_parameter_of
    have fe : sFor (bdSeq 2 (bdCons (setV 3) (bdCons (setV 4) bdNil))) (mEnum (mVar 2)) bodyP [.v t, .v (.str lb), .v (.lst P), .un, .un] = some (.nx [.v t, .v (.str lb), .v (.lst P), x', y']) := e
    unfold bodyP at fe
    rw [seq_of fe, e0]
    rfl
def les (lb : List Nat) (ls : List (List Nat)) : List (List Nat) := ls.filter fun s => decide (s < lb)
theorem comp_les {α : Type} {w : α → List Nat} {k : α → D} {lb : List Nat} : ∀ (L : List α) (x y : Sl), fre x → fre y → compL (bdSeq 2 (bdCons (setV 1) (bdCons (setV 2) bdNil))) (mBl (mBin ltA (mVar 1) (mVar 0))) (mVar 1) (L.map fun q => .tup [.str (w q), k q]) [.v (.str lb), x, y] = some ((les lb (L.map w)).map D.str)
  | [], x, y, _, _ => rfl
  | q :: L, x, y, hx, hy => by
    have ih := comp_les (w := w) (k := k) (lb := lb) L (.v (.str (w q))) (.v (k q)) trivial trivial
    have e1 : bdSeq 2 (bdCons (setV 1) (bdCons (setV 2) bdNil)) (.tup [.str (w q), k q]) [.v (.str lb), x, y] = some [.v (.str lb), .v (.str (w q)), .v (k q)] := bdP (r1 := [.v (.str lb), .v (.str (w q)), y]) (setV_fre (x := x) rfl hx) (setV_fre (x := y) rfl hy)
    have e2 : mBl (mBin ltA (mVar 1) (mVar 0)) [.v (.str lb), .v (.str (w q)), .v (k q)] = some (decide (w q < lb)) := bl_of (bin_of (x := .str (w q)) (y := .str lb) rfl rfl rfl)
    rw [List.map_cons]; unfold compL
    rw [e1, Option.bind_some, e2, Option.bind_some, ih]
    unfold les
    rw [List.map_cons, List.filter_cons]
    by_cases h : w q < lb
    · simp [h]; rfl
    · simp [h]
theorem off_eq {α : Type} {w : α → List Nat} {k : α → D} {t : D} {lb : List Nat} {L : List α} {P : List D} (ht : Tl t) (hl : lw lb) (hp : Prs P) (h : L.length ≤ 1000) :
    ∃ as, F_offset [.v (.tup [.str [114, 111, 119], .tup (L.map fun q => .tup [.str (w q), k q]), t]), .v (.str lb), .v (.lst P)] = some (.v (.tup [.int ((les lb (L.map w)).length : Nat), firstAt t lb 0 P]), as) := by
  let Rw : D := .tup [.str [114, 111, 119], .tup (L.map fun q => .tup [.str (w q), k q]), t]
  refine mk_rt (r' := [.v Rw, .v (.str lb), .v (.lst P)]) ?_
  show g_offset [.v Rw, .v (.str lb), .v (.lst P)] = _
  unfold g_offset
  have it : mIt (mBin ixD (mVar 0) (mC (.int 1))) [.v Rw, .v (.str lb), .v (.lst P)] = some (L.map fun q => .tup [.str (w q), k q]) := by
    unfold mIt
    rw [bin_of (x := Rw) (d := .tup (L.map fun q => .tup [.str (w q), k q])) rfl con_of rfl]; rfl
  have e1 : mCompIf [1] 3 (mIt (mBin ixD (mVar 0) (mC (.int 1)))) (bdSeq 2 (bdCons (setV 1) (bdCons (setV 2) bdNil))) (mBl (mBin ltA (mVar 1) (mVar 0))) (mVar 1) [.v Rw, .v (.str lb), .v (.lst P)] = some ((les lb (L.map w)).map D.str) := by
    unfold mCompIf
    rw [it, Option.bind_some, if_pos (by rw [List.length_map]; exact Nat.lt_of_le_of_lt h (by decide))]
    exact comp_les L .un .un trivial trivial
  have e2 : mUn lenD (mOfF (mCompIf [1] 3 (mIt (mBin ixD (mVar 0) (mC (.int 1)))) (bdSeq 2 (bdCons (setV 1) (bdCons (setV 2) bdNil))) (mBl (mBin ltA (mVar 1) (mVar 0))) (mVar 1))) [.v Rw, .v (.str lb), .v (.lst P)] = some (.int ((les lb (L.map w)).length : Nat)) := by
    unfold mUn mOfF
    rw [e1]
    show some (D.int (((les lb (L.map w)).map D.str).length : Nat)) = _
    rw [List.length_map]
  have e3 : mBin ixD (mVar 0) (mC (.int 2)) [.v Rw, .v (.str lb), .v (.lst P)] = some t := bin_of (x := Rw) rfl con_of rfl
  refine ret_of (tup_of (cons_of e2 (cons_of (call_of (p := .v (firstAt t lb 0 P)) (cons_of e3 (cons_of rfl (cons_of rfl nil_of))) rfl (par_eq ht hl hp)) nil_of)) (by show 2 ≤ 100; decide))
def bodyL : MS := (sIf (mBl (mBin ltA (mVar 5) (mVar 2)))
 (sSet 4 (mBin addD (mVar 4) (mC (.int 1))))
 sSkip)
theorem les_loop {A t P : D} {lb : List Nat} {u v : Sl} : ∀ (ls : List (List Nat)) (n : Int) (x : Sl), fre x → ∃ x', fre x' ∧ forL (setV 5) bodyL (ls.map D.str) [.v A, .v t, .v (.str lb), .v P, .v (.int n), x, u, v] = some (.nx [.v A, .v t, .v (.str lb), .v P, .v (.int (n + ((les lb ls).length : Nat))), x', u, v])
  | [], n, x, hx => ⟨x, hx, by simp [forL, les]⟩
  | s :: ls, n, x, hx => by
    have e1 : setV 5 (.str s) [.v A, .v t, .v (.str lb), .v P, .v (.int n), x, u, v] = some [.v A, .v t, .v (.str lb), .v P, .v (.int n), .v (.str s), u, v] := setV_fre (x := x) rfl hx
    have e2 : mBl (mBin ltA (mVar 5) (mVar 2)) [.v A, .v t, .v (.str lb), .v P, .v (.int n), .v (.str s), u, v] = some (decide (s < lb)) := bl_of (bin_of (x := .str s) (y := .str lb) rfl rfl rfl)
    by_cases h : s < lb
    · rw [decide_eq_true h] at e2
      obtain ⟨x', q1, q2⟩ := les_loop (A := A) (t := t) (P := P) (lb := lb) (u := u) (v := v) ls (n + 1) (.v (.str s)) trivial
      refine ⟨x', q1, ?_⟩
      have b : bodyL [.v A, .v t, .v (.str lb), .v P, .v (.int n), .v (.str s), u, v] = some (.nx [.v A, .v t, .v (.str lb), .v P, .v (.int (n + 1)), .v (.str s), u, v]) := by
        unfold bodyL
        rw [sIf_t e2]
        exact sSet_of (d := .int (n + 1)) (add_of (i := n) rfl con_of) (by rfl)
      rw [List.map_cons, for_go e1 b, q2]
      have : ((les lb (s :: ls)).length : Int) = (les lb ls).length + 1 := by unfold les; rw [List.filter_cons]; simp [h]
      rw [show n + 1 + ((les lb ls).length : Int) = n + ((les lb (s :: ls)).length : Int) by omega]
    · rw [decide_eq_false h] at e2
      obtain ⟨x', q1, q2⟩ := les_loop (A := A) (t := t) (P := P) (lb := lb) (u := u) (v := v) ls n (.v (.str s)) trivial
      refine ⟨x', q1, ?_⟩
      have b : bodyL [.v A, .v t, .v (.str lb), .v P, .v (.int n), .v (.str s), u, v] = some (.nx [.v A, .v t, .v (.str lb), .v P, .v (.int n), .v (.str s), u, v]) := by
        unfold bodyL
        rw [sIf_f e2]; rfl
      rw [List.map_cons, for_go e1 b, q2]
      have : (les lb (s :: ls)) = (les lb ls) := by unfold les; rw [List.filter_cons]; simp [h]
      rw [this]
def bodyD : MS := (sIf (mBl (mBin eqT (mVar 7) (mTup (mCons (mVar 1) (mCons (mVar 2) mNil)))))
 (sRet (mTup (mCons (mVar 4) (mCons (mVar 6) mNil))))
 sSkip)
theorem due_loop {A t N : D} {B : D} {lb : List Nat} {w : Sl} (ht : Tl t) (hl : lw lb) : ∀ (P : List D) (i : Nat) (x y : Sl), Prs P → fre x → fre y →
    (∃ r', forL (bdSeq 2 (bdCons (setV 6) (bdCons (setV 7) bdNil))) bodyD (enp i P) [.v A, .v t, .v (.str lb), .v B, .v N, w, x, y] = some (.rt (.tup [N, firstAt t lb i P]) r')) ∨
    (firstAt t lb i P = .non ∧ ∃ x' y', forL (bdSeq 2 (bdCons (setV 6) (bdCons (setV 7) bdNil))) bodyD (enp i P) [.v A, .v t, .v (.str lb), .v B, .v N, w, x, y] = some (.nx [.v A, .v t, .v (.str lb), .v B, .v N, w, x', y']))
  | [], i, x, y, _, _, _ => .inr ⟨rfl, x, y, rfl⟩
  | p :: P, i, x, y, h, hx, hy => by
    have e1 : bdSeq 2 (bdCons (setV 6) (bdCons (setV 7) bdNil)) (.tup [.int (i : Nat), p]) [.v A, .v t, .v (.str lb), .v B, .v N, w, x, y] = some [.v A, .v t, .v (.str lb), .v B, .v N, w, .v (.int (i : Nat)), .v p] := bdP (r1 := [.v A, .v t, .v (.str lb), .v B, .v N, w, .v (.int (i : Nat)), y]) (setV_fre (x := x) rfl hx) (setV_fre (x := y) rfl hy)
    have e2 : mBl (mBin eqT (mVar 7) (mTup (mCons (mVar 1) (mCons (mVar 2) mNil)))) [.v A, .v t, .v (.str lb), .v B, .v N, w, .v (.int (i : Nat)), .v p] = some (hit t lb p) := bl_of (bin_of (x := p) rfl (tup_of (cons_of rfl (cons_of rfl nil_of)) (by show 2 ≤ 100; decide)) (eq_hit ht hl (h p (by simp))))
    rw [enp_cons]
    cases hh : hit t lb p with
    | true =>
      rw [hh] at e2
      refine .inl ⟨[.v A, .v t, .v (.str lb), .v B, .v N, w, .v (.int (i : Nat)), .v p], ?_⟩
      unfold firstAt
      rw [hh, if_pos rfl]
      exact for_rt e1 (by unfold bodyD; rw [sIf_t e2]; rfl)
    | false =>
      rw [hh] at e2
      have e3 : firstAt t lb i (p :: P) = firstAt t lb (i + 1) P := by
        conv => lhs; unfold firstAt
        rw [hh, if_neg (by simp)]
      rw [e3, for_go e1 (r' := [.v A, .v t, .v (.str lb), .v B, .v N, w, .v (.int (i : Nat)), .v p]) (by unfold bodyD; rw [sIf_f e2]; rfl)]
      exact due_loop ht hl P (i + 1) (.v (.int (i : Nat))) (.v p) (fun q hq => h q (by simp [hq])) trivial trivial
theorem due_eq {t : D} {lb : List Nat} {ls : List (List Nat)} {P : List D} (ht : Tl t) (hl : lw lb) (hp : Prs P) :
    ∃ as, F__law_due [.v (.lst (ls.map D.str)), .v t, .v (.str lb), .v (.lst P)] = some (.v (.tup [.int ((les lb ls).length : Nat), firstAt t lb 0 P]), as) := by
  let A : D := .lst (ls.map D.str)
  let N : D := .int ((les lb ls).length : Nat)
  obtain ⟨w, w1, w2⟩ := les_loop (A := A) (t := t) (P := .lst P) (lb := lb) (u := .un) (v := .un) ls 0 .un trivial
  rw [Int.zero_add] at w2
  have fe : sFor (setV 5) (mIt (mVar 0)) bodyL [.v A, .v t, .v (.str lb), .v (.lst P), .v (.int 0), .un, .un, .un] = some (.nx [.v A, .v t, .v (.str lb), .v (.lst P), .v N, w, .un, .un]) := w2
  unfold bodyL at fe
  rcases ht with rfl | ⟨j, rfl⟩
  · rw [firstAt_none 0 P hp]
    refine mk_rt (r' := [.v A, .v .non, .v (.str lb), .v (.lst P), .v N, w, .un, .un]) ?_
    show g__law_due [.v A, .v .non, .v (.str lb), .v (.lst P), .un, .un, .un, .un] = _
    unfold g__law_due
    refine seq_set (.int 0) con_of (r2 := [.v A, .v .non, .v (.str lb), .v (.lst P), .v (.int 0), .un, .un, .un]) (by rfl) ?_
    rw [seq_of fe]
    exact seq_tt (by rfl) (by rfl)
  · have ht : Tl (.int j) := .inr ⟨j, rfl⟩
    rcases due_loop (A := A) (N := N) (B := .lst P) (w := w) ht hl P 0 .un .un hp trivial trivial with ⟨r', e⟩ | ⟨e0, x', y', e⟩
    · refine mk_rt (r' := r') ?_
      show g__law_due [.v A, .v (.int j), .v (.str lb), .v (.lst P), .un, .un, .un, .un] = _
      unfold g__law_due
      refine seq_set (.int 0) con_of (r2 := [.v A, .v (.int j), .v (.str lb), .v (.lst P), .v (.int 0), .un, .un, .un]) (by rfl) ?_
      rw [seq_of fe]
      refine seq_ff (by rfl) ?_
      have fd : sFor (bdSeq 2 (bdCons (setV 6) (bdCons (setV 7) bdNil))) (mEnum (mVar 3)) bodyD [.v A, .v (.int j), .v (.str lb), .v (.lst P), .v N, w, .un, .un] = some (.rt (.tup [N, firstAt (.int j) lb 0 P]) r') := e
      unfold bodyD at fd
      exact seq_rt fd
    · refine mk_rt (r' := [.v A, .v (.int j), .v (.str lb), .v (.lst P), .v N, w, x', y']) ?_
      show g__law_due [.v A, .v (.int j), .v (.str lb), .v (.lst P), .un, .un, .un, .un] = _
      unfold g__law_due
      refine seq_set (.int 0) con_of (r2 := [.v A, .v (.int j), .v (.str lb), .v (.lst P), .v (.int 0), .un, .un, .un]) (by rfl) ?_
      rw [seq_of fe]
      refine seq_ff (by rfl) ?_
      have fd : sFor (bdSeq 2 (bdCons (setV 6) (bdCons (setV 7) bdNil))) (mEnum (mVar 3)) bodyD [.v A, .v (.int j), .v (.str lb), .v (.lst P), .v N, w, .un, .un] = some (.nx [.v A, .v (.int j), .v (.str lb), .v (.lst P), .v N, w, x', y']) := e
      unfold bodyD at fd
      rw [seq_of fd, e0]
      rfl
theorem whole_eq (i : Int) : ∃ as, F__law_whole [.v (.int i)] = some (.v (.bl true), as) := by
  refine mk_rt (r' := [.v (.int i)]) ?_
  show g__law_whole [.v (.int i)] = _
  unfold g__law_whole
  refine ret_of ?_
  have a : instN "int" "int" = some true := by decide
  have b : instN "int" "bool" = some false := by decide
  have e1 : mUn (instD "int") (mVar 0) [.v (.int i)] = some (.bl true) := un_of (x := .int i) rfl (by simp [instD, tyN, a])
  have e2 : mUn (instD "bool") (mVar 0) [.v (.int i)] = some (.bl false) := un_of (x := .int i) rfl (by simp [instD, tyN, b])
  unfold mAnd
  rw [e1]
  show mUn notD (mUn (instD "bool") (mVar 0)) [.v (.int i)] = _
  exact un_of e2 rfl
theorem good_eq {n : Int} {q : D} (hq : Tl q) : ∃ as, F__law_good [.v (.tup [.int n, q]), .v (.tup [.int n, q])] = some (.v (.bl true), as) := by
  let T : D := .tup [.int n, q]
  refine mk_rt (r' := [.v T, .v T]) ?_
  show g__law_good [.v T, .v T] = _
  unfold g__law_good
  have it : instN "tuple" "tuple" = some true := by decide
  have a1 : mNotT (mTru (mUn (instD "tuple") (mVar 0))) [.v T, .v T] = some false := by
    have b : mUn (instD "tuple") (mVar 0) [.v T, .v T] = some (.bl true) := un_of (x := T) rfl (by show instD "tuple" (.tup [.int n, q]) = _; simp [instD, tyN, it])
    unfold mNotT mTru; rw [b]; rfl
  have a2 : mBl (mBin neA (mUn lenD (mVar 0)) (mC (.int 2))) [.v T, .v T] = some false := rfl
  have a3 : mNotT (mTru (mCall 1 F__law_whole (mCons (mBin ixD (mVar 0) (mC (.int 0))) mNil))) [.v T, .v T] = some false := by
    have b : mCall 1 F__law_whole (mCons (mBin ixD (mVar 0) (mC (.int 0))) mNil) [.v T, .v T] = some (.bl true) := call_of (p := .v (.bl true)) (cons_of (bin_of (x := T) (d := .int n) rfl con_of rfl) nil_of) rfl (whole_eq n)
    unfold mNotT mTru; rw [b]; rfl
  have c1 : mOrT (mNotT (mTru (mUn (instD "tuple") (mVar 0)))) (mOrT (mBl (mBin neA (mUn lenD (mVar 0)) (mC (.int 2)))) (mNotT (mTru (mCall 1 F__law_whole (mCons (mBin ixD (mVar 0) (mC (.int 0))) mNil))))) [.v T, .v T] = some false := by
    unfold mOrT
    rw [a1, Option.bind_some, if_neg (by simp), a2, Option.bind_some, if_neg (by simp), a3]
  refine seq_ff c1 ?_
  have i1 : mBin ixD (mVar 0) (mC (.int 1)) [.v T, .v T] = some q := bin_of (x := T) rfl con_of rfl
  have c2 : mAndT (mBl (mBin notND (mBin ixD (mVar 0) (mC (.int 1))) (mC .non))) (mNotT (mTru (mCall 1 F__law_whole (mCons (mBin ixD (mVar 0) (mC (.int 1))) mNil)))) [.v T, .v T] = some false := by
    rcases hq with rfl | ⟨j, rfl⟩
    · have b : mBl (mBin notND (mBin ixD (mVar 0) (mC (.int 1))) (mC .non)) [.v T, .v T] = some false := bl_of (bin_of i1 con_of rfl)
      unfold mAndT; rw [b]; rfl
    · have b : mBl (mBin notND (mBin ixD (mVar 0) (mC (.int 1))) (mC .non)) [.v T, .v T] = some true := bl_of (bin_of i1 con_of rfl)
      have b2 : mCall 1 F__law_whole (mCons (mBin ixD (mVar 0) (mC (.int 1))) mNil) [.v T, .v T] = some (.bl true) := call_of (p := .v (.bl true)) (cons_of i1 nil_of) rfl (whole_eq j)
      have b3 : mNotT (mTru (mCall 1 F__law_whole (mCons (mBin ixD (mVar 0) (mC (.int 1))) mNil))) [.v T, .v T] = some false := by unfold mNotT mTru; rw [b2]; rfl
      unfold mAndT
      rw [b, Option.bind_some, if_pos rfl, b3]
  refine seq_ff c2 ?_
  exact ret_of (bin_of (x := T) (y := T) rfl rfl (eqT_refl (lay_two (.inr ⟨n, rfl⟩) hq)))
theorem n_nx {g : MS} {G : MN} {r r1 : En} {Q : Fl → Prop} (e : g r = some (.nx r1)) (h : G r1 Q) : nSeq g G r Q := ⟨.nx r1, e, h⟩
def wrd (p : List Nat × Nat) : D := .tup [.int (p.2 : Nat), .str p.1]
theorem enum_strs (ws : List (List Nat)) : enumD (ws.map D.str) = ws.zipIdx.map wrd := by
  unfold enumD
  rw [List.zipIdx_map, List.map_map]; rfl
theorem comp_lab {f : Int} : ∀ (L : List (List Nat × Nat)) (x y : Sl), (∀ p ∈ L, p.2 ≤ 100) → fre x → fre y → ∃ vs : List (List Nat), (∀ w ∈ vs, w ∈ L.map Prod.fst) ∧ vs.length ≤ L.length ∧
    compL (bdSeq 2 (bdCons (setV 1) (bdCons (setV 2) bdNil))) (mBl (mBin gtD (mBin modD (mCall 2 F__law_mixed (mCons (mVar 0) (mCons (mVar 1) mNil))) (mC (.int 3))) (mC (.int 0)))) (mVar 2) (L.map wrd) [.v (.int f), x, y] = some (vs.map D.str)
  | [], x, y, _, _, _ => ⟨[], by simp, by simp, rfl⟩
  | p :: L, x, y, hp, hx, hy => by
    obtain ⟨vs, q1, q2, q3⟩ := comp_lab (f := f) L (.v (.int (p.2 : Nat))) (.v (.str p.1)) (fun z hz => hp z (by simp [hz])) trivial trivial
    have p1 := hp p (by simp)
    obtain ⟨n, n0, hn⟩ := mixed_eq f (k := (p.2 : Nat)) (by omega) (by omega)
    have e1 : bdSeq 2 (bdCons (setV 1) (bdCons (setV 2) bdNil)) (wrd p) [.v (.int f), x, y] = some [.v (.int f), .v (.int (p.2 : Nat)), .v (.str p.1)] := bdP (r1 := [.v (.int f), .v (.int (p.2 : Nat)), y]) (setV_fre (x := x) rfl hx) (setV_fre (x := y) rfl hy)
    have e2 : mBl (mBin gtD (mBin modD (mCall 2 F__law_mixed (mCons (mVar 0) (mCons (mVar 1) mNil))) (mC (.int 3))) (mC (.int 0))) [.v (.int f), .v (.int (p.2 : Nat)), .v (.str p.1)] = some (decide (0 < n % 3)) := gt_of (mod_of (call_of (p := .v (.int n)) (cons_of rfl (cons_of rfl nil_of)) rfl hn) con_of (by decide)) con_of
    by_cases h : 0 < n % 3
    · refine ⟨p.1 :: vs, fun w hw => ?_, by simp; omega, ?_⟩
      · rcases List.mem_cons.mp hw with rfl | hw
        · simp
        · have := q1 w hw; simp at this ⊢; exact .inr this
      · rw [List.map_cons]; unfold compL
        rw [e1, Option.bind_some, e2, Option.bind_some, decide_eq_true h, if_pos rfl, q3]; rfl
    · refine ⟨vs, fun w hw => by have := q1 w hw; simp at this ⊢; exact .inr this, by simp; omega, ?_⟩
      rw [List.map_cons]; unfold compL
      rw [e1, Option.bind_some, e2, Option.bind_some, decide_eq_false h, if_neg (by simp), q3]
theorem strs_back {vs : List (List Nat)} : ∀ l : List D, (∀ d ∈ l, d ∈ vs.map D.str) → ∃ ls : List (List Nat), l = ls.map D.str ∧ ∀ w ∈ ls, w ∈ vs
  | [], _ => ⟨[], rfl, by simp⟩
  | d :: l, h => by
    obtain ⟨ls, e, q⟩ := strs_back l fun z hz => h z (by simp [hz])
    obtain ⟨w, hw, rfl⟩ := List.mem_map.mp (h d (by simp))
    exact ⟨w :: ls, by rw [e]; rfl, fun u hu => by
      rcases List.mem_cons.mp hu with rfl | hu
      · exact hw
      · exact q u hu⟩
abbrev Fr (S f W L T : D) (P : List D) (a b c : Sl) : En := [.v S, .v f, .v W, .v L, .v T, .o P, a, b, c, .un, .un, .un, .un]
def bodyJ : MS := (sX (mApp 5 (mTup (mCons (mBin addD (mBin addD (mC (.int 6)) (mBin modD (mBin fdivD (mVar 1) (mC (.int 4))) (mC (.int 1000)))) (mVar 8)) (mCons (mVar 7) mNil)))))
theorem pair_in {S W L T : D} {f : Int} {w : List Nat} (hw : lw w) {a : Sl} : ∀ (ks : List Nat) (P : List D) (c : Sl), Prs P → P.length + ks.length ≤ 1000 → fre c →
    ∃ P' c', Prs P' ∧ P'.length = P.length + ks.length ∧ fre c' ∧ forL (setV 8) bodyJ (ks.map fun k => .int ((0 : Int) + (k : Nat))) (Fr S (.int f) W L T P a (.v (.str w)) c) = some (.nx (Fr S (.int f) W L T P' a (.v (.str w)) c'))
  | [], P, c, h, _, hc => ⟨P, c, h, rfl, hc, rfl⟩
  | k :: ks, P, c, h, hl, hc => by
    rw [List.length_cons] at hl
    let v : Int := 6 + f / 4 % 1000 + ((0 : Int) + (k : Nat))
    obtain ⟨P', c', q1, q2, q3, q4⟩ := pair_in (S := S) (W := W) (L := L) (T := T) (f := f) hw (a := a) ks (P ++ [.tup [.int v, .str w]]) (.v (.int ((0 : Int) + (k : Nat)))) (fun p hp => by
      rcases (List.mem_append).mp hp with z | z
      · exact h p z
      · simp at z; exact ⟨v, w, z, hw⟩) (by simp; omega) trivial
    refine ⟨P', c', q1, by rw [q2]; simp; omega, q3, ?_⟩
    have e0 : setV 8 (.int ((0 : Int) + (k : Nat))) (Fr S (.int f) W L T P a (.v (.str w)) c) = some (Fr S (.int f) W L T P a (.v (.str w)) (.v (.int ((0 : Int) + (k : Nat))))) := setV_fre (x := c) rfl hc
    have e1 : mTup (mCons (mBin addD (mBin addD (mC (.int 6)) (mBin modD (mBin fdivD (mVar 1) (mC (.int 4))) (mC (.int 1000)))) (mVar 8)) (mCons (mVar 7) mNil)) (Fr S (.int f) W L T P a (.v (.str w)) (.v (.int ((0 : Int) + (k : Nat))))) = some (.tup [.int v, .str w]) :=
      tup_of (cons_of (add_of (add_of con_of (mod_of (fdiv_of (i := f) rfl con_of (by decide)) con_of (by decide))) rfl) (cons_of rfl nil_of)) (by show 2 ≤ 100; decide)
    have b : bodyJ (Fr S (.int f) W L T P a (.v (.str w)) (.v (.int ((0 : Int) + (k : Nat))))) = some (.nx (Fr S (.int f) W L T (P ++ [.tup [.int v, .str w]]) a (.v (.str w)) (.v (.int ((0 : Int) + (k : Nat)))))) := sX_of (d := .non) (app_of (S := P) rfl e1 (Nat.lt_of_le_of_lt (by omega : P.length ≤ 1000) (by decide)))
    rw [List.map_cons, for_go e0 b, q4]
def bodyK : MS := (sFor (setV 8) (mRng1 (mBin modD (mCall 2 F__law_mixed (mCons (mVar 1) (mCons (mBin addD (mC (.int 50)) (mVar 6)) mNil))) (mC (.int 4)))) (sX (mApp 5 (mTup (mCons (mBin addD (mBin addD (mC (.int 6)) (mBin modD (mBin fdivD (mVar 1) (mC (.int 4))) (mC (.int 1000)))) (mVar 8)) (mCons (mVar 7) mNil))))))
theorem pair_all {S W L T : D} {f : Int} : ∀ (Z : List (List Nat × Nat)) (P : List D) (a b c : Sl), (∀ p ∈ Z, p.2 ≤ 100 ∧ lw p.1) → Prs P → P.length + 3 * Z.length ≤ 900 → fre a → fre b → fre c →
    ∃ P' a' b' c', Prs P' ∧ P'.length ≤ P.length + 3 * Z.length ∧ forL (bdSeq 2 (bdCons (setV 6) (bdCons (setV 7) bdNil))) bodyK (Z.map wrd) (Fr S (.int f) W L T P a b c) = some (.nx (Fr S (.int f) W L T P' a' b' c'))
  | [], P, a, b, c, _, h, _, _, _, _ => ⟨P, a, b, c, h, by simp, rfl⟩
  | p :: Z, P, a, b, c, hp, h, hl, ha, hb, hc => by
    rw [List.length_cons] at hl
    obtain ⟨p1, p2⟩ := hp p (by simp)
    obtain ⟨n, n0, hn⟩ := mixed_eq f (k := 50 + (p.2 : Nat)) (by omega) (by omega)
    have m0 : 0 ≤ n % 4 := Int.emod_nonneg _ (by decide)
    have m4 : n % 4 < 4 := Int.emod_lt_of_pos _ (by decide)
    obtain ⟨m, hm⟩ := Int.eq_ofNat_of_zero_le m0
    obtain ⟨P1, c1, q1, q2, q3, q4⟩ := pair_in (S := S) (W := W) (L := L) (T := T) (f := f) p2 (a := .v (.int (p.2 : Nat))) (List.range m) P c h (by simp; omega) hc
    rw [List.length_range] at q2
    obtain ⟨P', a', b', c', r1, r2, r3⟩ := pair_all (S := S) (W := W) (L := L) (T := T) (f := f) Z P1 (.v (.int (p.2 : Nat))) (.v (.str p.1)) c1 (fun z hz => hp z (by simp [hz])) q1 (by omega) trivial trivial q3
    refine ⟨P', a', b', c', r1, by rw [List.length_cons]; omega, ?_⟩
    have e1 : bdSeq 2 (bdCons (setV 6) (bdCons (setV 7) bdNil)) (wrd p) (Fr S (.int f) W L T P a b c) = some (Fr S (.int f) W L T P (.v (.int (p.2 : Nat))) (.v (.str p.1)) c) := bdP (r1 := Fr S (.int f) W L T P (.v (.int (p.2 : Nat))) b c) (setV_fre (x := a) rfl ha) (setV_fre (x := b) rfl hb)
    have rg : mBin modD (mCall 2 F__law_mixed (mCons (mVar 1) (mCons (mBin addD (mC (.int 50)) (mVar 6)) mNil))) (mC (.int 4)) (Fr S (.int f) W L T P (.v (.int (p.2 : Nat))) (.v (.str p.1)) c) = some (.int (m : Int)) := by
      have cl : mCall 2 F__law_mixed (mCons (mVar 1) (mCons (mBin addD (mC (.int 50)) (mVar 6)) mNil)) (Fr S (.int f) W L T P (.v (.int (p.2 : Nat))) (.v (.str p.1)) c) = some (.int n) := call_of (p := .v (.int n)) (cons_of (x := .int f) rfl (cons_of (x := .int (50 + (p.2 : Nat))) (add_of con_of rfl) nil_of)) rfl hn
      have md := mod_of (g := mC (.int 4)) cl con_of (by decide)
      rw [md, hm]
    have bd : bodyK (Fr S (.int f) W L T P (.v (.int (p.2 : Nat))) (.v (.str p.1)) c) = some (.nx (Fr S (.int f) W L T P1 (.v (.int (p.2 : Nat))) (.v (.str p.1)) c1)) := by
      unfold bodyK sFor
      rw [rng_of rg (by omega)]
      exact q4
    rw [List.map_cons, for_go e1 bd, r3]
theorem lay_prs : ∀ P : List D, Prs P → okDs P = true ∧ PyData.canLayAll0 (toPs P) = true ∧ PyData.depthAll (toPs P) ≤ 1
  | [], _ => ⟨rfl, rfl, by simp [toPs, PyData.depthAll]⟩
  | p :: P, h => by
    obtain ⟨a, b, c⟩ := lay_prs P fun q hq => h q (by simp [hq])
    obtain ⟨i, s, rfl, hs⟩ := h p (by simp)
    have := strOk_lw hs
    refine ⟨by simp [okDs, okD, a], by simp [toPs, toP, PyData.canLayAll0, PyData.canLay0, this, b], ?_⟩
    simp only [toPs, toP, PyData.depthAll, PyData.depth]
    omega
theorem lay_list {P : List D} (h : Prs P) : layD (.lst P) = true := by
  obtain ⟨a, b, c⟩ := lay_prs P h
  simp only [layD, okD, toP, PyData.canLay0, PyData.depth, a, b, Bool.and_true, Bool.true_and, decide_eq_true_eq]
  omega
def knds : List D := [.tup [.str [110, 117, 109]], .tup [.str [118, 97, 114], .int 5], .tup [.str [102, 117, 110], .tup [.str [110, 117, 109]], .tup [.str [110, 117, 109]]]]
def knd (w : List Nat) : D := knds.getD (w.length % 3) .non
theorem knd_ok (w : List Nat) : okD (knd w) = true ∧ PyData.canLay0 (toP (knd w)) = true ∧ PyData.depth (toP (knd w)) ≤ 3 := by
  have : w.length % 3 < 3 := Nat.mod_lt _ (by decide)
  have a : ∀ j, j < 3 → okD (knds.getD j .non) = true ∧ PyData.canLay0 (toP (knds.getD j .non)) = true ∧ PyData.depth (toP (knds.getD j .non)) ≤ 3 := by
    intro j hj
    match j, hj with
    | 0, _ => simp [knds, okD, okDs, toP, toPs, PyData.canLay0, PyData.canLayAll0, PyData.depth, PyData.depthAll, PyData.strOk]
    | 1, _ => simp [knds, okD, okDs, toP, toPs, PyData.canLay0, PyData.canLayAll0, PyData.depth, PyData.depthAll, PyData.strOk]
    | 2, _ => simp [knds, okD, okDs, toP, toPs, PyData.canLay0, PyData.canLayAll0, PyData.depth, PyData.depthAll, PyData.strOk]
    | j + 3, hj => exact absurd hj (by omega)
  exact a _ this
def fld (w : List Nat) : D := .tup [.str w, knd w]
theorem lay_flds : ∀ ls : List (List Nat), Wds ls → okDs (ls.map fld) = true ∧ PyData.canLayAll0 (toPs (ls.map fld)) = true ∧ PyData.depthAll (toPs (ls.map fld)) ≤ 4
  | [], _ => ⟨rfl, rfl, by simp [toPs, PyData.depthAll]⟩
  | w :: ls, h => by
    obtain ⟨a, b, c⟩ := lay_flds ls fun q hq => h q (by simp [hq])
    obtain ⟨k1, k2, k3⟩ := knd_ok w
    have := strOk_lw (h w (by simp)).1
    refine ⟨by simp [okDs, okD, fld, a, k1], by simp [fld, toPs, toP, PyData.canLayAll0, PyData.canLay0, this, b, k2], ?_⟩
    rw [List.map_cons]
    have hd : PyData.depth (toP (fld w)) ≤ 4 := by
      simp only [fld, toPs, toP, PyData.depthAll, PyData.depth]
      omega
    simp only [toPs, PyData.depthAll]
    omega
theorem lay_row {ls : List (List Nat)} {t : D} (h : Wds ls) (ht : Tl t) : layD (.tup [.str [114, 111, 119], .tup (ls.map fld), t]) = true := by
  obtain ⟨a, b, c⟩ := lay_flds ls h
  have s : PyData.strOk ⟨#[114, 111, 119]⟩ = true := by simp [PyData.strOk]
  rcases ht with rfl | ⟨i, rfl⟩
  · simp only [layD, okD, okDs, toP, toPs, PyData.canLay0, PyData.canLayAll0, PyData.depth, PyData.depthAll, a, b, Bool.and_true, Bool.true_and, decide_eq_true_eq, Bool.and_eq_true]
    exact ⟨s, by omega⟩
  · simp only [layD, okD, okDs, toP, toPs, PyData.canLay0, PyData.canLayAll0, PyData.depth, PyData.depthAll, a, b, Bool.and_true, Bool.true_and, decide_eq_true_eq, Bool.and_eq_true]
    exact ⟨s, by omega⟩
theorem comp_fld : ∀ (ls : List (List Nat)) (x : Sl), (∀ w ∈ ls, w.length ≤ 8) → fre x → compL (setV 0) mTrue (mTup (mCons (mVar 0) (mCons (mBin ixD (mOfF (mLstF (mCons (mTup (mCons (mC (.str [110, 117, 109])) mNil)) (mCons (mTup (mCons (mC (.str [118, 97, 114])) (mCons (mC (.int 5)) mNil))) (mCons (mTup (mCons (mC (.str [102, 117, 110])) (mCons (mTup (mCons (mC (.str [110, 117, 109])) mNil)) (mCons (mTup (mCons (mC (.str [110, 117, 109])) mNil)) mNil)))) mNil))))) (mBin modD (mUn lenD (mVar 0)) (mC (.int 3)))) mNil))) (ls.map D.str) [x] = some (ls.map fld)
  | [], x, _, _ => rfl
  | w :: ls, x, h, hx => by
    have ih := comp_fld ls (.v (.str w)) (fun z hz => h z (by simp [hz])) trivial
    have e1 : setV 0 (.str w) [x] = some [.v (.str w)] := setV_fre (r := [x]) rfl hx
    have lk : mOfF (mLstF (mCons (mTup (mCons (mC (.str [110, 117, 109])) mNil)) (mCons (mTup (mCons (mC (.str [118, 97, 114])) (mCons (mC (.int 5)) mNil))) (mCons (mTup (mCons (mC (.str [102, 117, 110])) (mCons (mTup (mCons (mC (.str [110, 117, 109])) mNil)) (mCons (mTup (mCons (mC (.str [110, 117, 109])) mNil)) mNil)))) mNil)))) [.v (.str w)] = some (.lst knds) := rfl
    have ln : mUn lenD (mVar 0) [.v (.str w)] = some (.int (w.length : Nat)) := un_of (x := .str w) rfl (if_pos (Nat.le_trans (h w (by simp)) (by decide)))
    have md : mBin modD (mUn lenD (mVar 0)) (mC (.int 3)) [.v (.str w)] = some (.int ((w.length % 3 : Nat) : Int)) := by
      rw [mod_of ln con_of (by decide)]; rfl
    have m3 : w.length % 3 < knds.length := Nat.mod_lt _ (by decide)
    have e2 := bin_of (m := ixD) (d := knd w) lk md (atI_nat (by unfold knd; rw [List.getD_eq_getElem?_getD, List.getElem?_eq_getElem m3]; rfl))
    have e3 := tup_of (cons_of (f := mVar 0) (x := .str w) rfl (cons_of e2 nil_of)) (by show 2 ≤ 100; decide)
    have e4 : mTrue [.v (.str w)] = some true := rfl
    rw [List.map_cons]; unfold compL
    rw [e1, Option.bind_some, e4, Option.bind_some, if_pos rfl, e3, Option.bind_some, ih]; rfl
def bodyQ : MS := (sIf (mNotT (mTru (mCall 2 F__law_good (mCons (mCall 3 F_offset (mCons (mVar 10) (mCons (mVar 12) (mCons (mVar 11) mNil)))) (mCons (mCall 4 F__law_due (mCons (mVar 3) (mCons (mVar 4) (mCons (mVar 12) (mCons (mVar 5) mNil))))) mNil)))))
 (sRet (mC (.bl false)))
 sSkip)
theorem ask_loop {a0 a1 a2 a6 a7 a8 a9 : Sl} {ls : List (List Nat)} {t : D} {P : List D} (hl : ls.length ≤ 1000) (ht : Tl t) (hp : Prs P) : ∀ (bs : List (List Nat)) (x : Sl), (∀ b ∈ bs, lw b) → fre x →
    ∃ x', forL (setV 12) bodyQ (bs.map D.str) [a0, a1, a2, .v (.lst (ls.map D.str)), .v t, .v (.lst P), a6, a7, a8, a9, .v (.tup [.str [114, 111, 119], .tup (ls.map fld), t]), .v (.lst P), x] = some (.nx [a0, a1, a2, .v (.lst (ls.map D.str)), .v t, .v (.lst P), a6, a7, a8, a9, .v (.tup [.str [114, 111, 119], .tup (ls.map fld), t]), .v (.lst P), x'])
  | [], x, _, _ => ⟨x, rfl⟩
  | b :: bs, x, hb, hx => by
    obtain ⟨x', q⟩ := ask_loop (a0 := a0) (a1 := a1) (a2 := a2) (a6 := a6) (a7 := a7) (a8 := a8) (a9 := a9) hl ht hp bs (.v (.str b)) (fun z hz => hb z (by simp [hz])) trivial
    refine ⟨x', ?_⟩
    have lb := hb b (by simp)
    let Rw : D := .tup [.str [114, 111, 119], .tup (ls.map fld), t]
    let Z : En := [a0, a1, a2, .v (.lst (ls.map D.str)), .v t, .v (.lst P), a6, a7, a8, a9, .v Rw, .v (.lst P), .v (.str b)]
    have e0 : setV 12 (.str b) [a0, a1, a2, .v (.lst (ls.map D.str)), .v t, .v (.lst P), a6, a7, a8, a9, .v Rw, .v (.lst P), x] = some Z := setV_fre (x := x) rfl hx
    have of := off_eq (w := fun w : List Nat => w) (k := knd) (L := ls) ht lb hp hl
    rw [List.map_id'] at of
    have e1 : mCall 3 F_offset (mCons (mVar 10) (mCons (mVar 12) (mCons (mVar 11) mNil))) Z = some (.tup [.int ((les b ls).length : Nat), firstAt t b 0 P]) := call_of (p := .v (.tup [.int ((les b ls).length : Nat), firstAt t b 0 P])) (cons_of (x := Rw) rfl (cons_of (x := .str b) rfl (cons_of (x := .lst P) rfl nil_of))) rfl of
    have e2 : mCall 4 F__law_due (mCons (mVar 3) (mCons (mVar 4) (mCons (mVar 12) (mCons (mVar 5) mNil)))) Z = some (.tup [.int ((les b ls).length : Nat), firstAt t b 0 P]) := call_of (p := .v (.tup [.int ((les b ls).length : Nat), firstAt t b 0 P])) (cons_of (x := .lst (ls.map D.str)) rfl (cons_of (x := t) rfl (cons_of (x := .str b) rfl (cons_of (x := .lst P) rfl nil_of)))) rfl (due_eq ht lb hp)
    have e3 := call_of (n := 2) (p := .v (.bl true)) (cons_of e1 (cons_of e2 nil_of)) rfl (good_eq (n := ((les b ls).length : Nat)) (firstAt_tl t b 0 P))
    have bd : bodyQ Z = some (.nx Z) := by
      unfold bodyQ
      rw [sIf_f (by unfold mNotT mTru; rw [e3]; rfl)]
      rfl
    rw [List.map_cons, for_go e0 bd, q]
theorem law_math : ∀ ns : List Int, ns.length ≤ 63 → g_law ([.v (.lst (ns.map .int))] ++ List.replicate (13 - 1) .un) (fun fl => ∃ r, fl = .rt (.bl true) r) := by
  intro ns hl
  let S : D := .lst (ns.map D.int)
  show g_law [.v S, .un, .un, .un, .un, .un, .un, .un, .un, .un, .un, .un, .un] _
  unfold g_law
  refine n_nx (r1 := [.v S, .v (.int 0), .un, .un, .un, .un, .un, .un, .un, .un, .un, .un, .un]) (by rfl) ?_
  have c1 : mBl (mBin gtD (mUn lenD (mVar 0)) (mC (.int 0))) [.v S, .v (.int 0), .un, .un, .un, .un, .un, .un, .un, .un, .un, .un, .un] = some (decide (0 < (ns.length : Int))) := by
    rw [gt_of (i := ((ns.map D.int).length : Int)) (un_of (x := S) rfl rfl) con_of, List.length_map]
  obtain ⟨f, hf, s1⟩ : ∃ f : Int, 0 ≤ f ∧ sIf (mBl (mBin gtD (mUn lenD (mVar 0)) (mC (.int 0)))) (sSet 1 (mCall 2 F__law_mixed (mCons (mBin ixD (mVar 0) (mC (.int 0))) (mCons (mC (.int 100)) mNil)))) sSkip [.v S, .v (.int 0), .un, .un, .un, .un, .un, .un, .un, .un, .un, .un, .un] = some (.nx [.v S, .v (.int f), .un, .un, .un, .un, .un, .un, .un, .un, .un, .un, .un]) := by
    by_cases h : 0 < (ns.length : Int)
    · rw [decide_eq_true h] at c1
      cases ns with
      | nil => simp at h
      | cons i ns =>
        obtain ⟨n, n0, hn⟩ := mixed_eq i (k := 100) (by decide) (by decide)
        refine ⟨n, n0, ?_⟩
        rw [sIf_t c1]
        exact sSet_of (d := .int n) (call_of (p := .v (.int n)) (cons_of (bin_of (x := S) rfl con_of (at_zero _ _)) (cons_of con_of nil_of)) rfl hn) (by rfl)
    · rw [decide_eq_false h] at c1
      exact ⟨0, by decide, by rw [sIf_f c1]; rfl⟩
  refine n_nx s1 ?_
  obtain ⟨ws, w1, w2, as, ew⟩ := words_eq (ns := ns)
  let W : D := .lst (ws.map D.str)
  have e2 : mOfF (mCallF 1 F__law_words (mCons (mVar 0) mNil)) [.v S, .v (.int f), .un, .un, .un, .un, .un, .un, .un, .un, .un, .un, .un] = some W := by
    show (((F__law_words [.v (.lst (ns.map D.int))]).bind _).map D.lst) = _
    rw [ew]; rfl
  refine n_nx (sSet_of (r2 := [.v S, .v (.int f), .v W, .un, .un, .un, .un, .un, .un, .un, .un, .un, .un]) e2 (by rfl)) ?_
  obtain ⟨vs, v1, v2, v3⟩ := comp_lab (f := f) ws.zipIdx .un .un (fun p hp => by have := zip_le hp; omega) trivial trivial
  rw [List.zipIdx_map_fst] at v1
  rw [List.length_zipIdx] at v2
  have e3 : mCompIf [1] 3 (mEnum (mVar 2)) (bdSeq 2 (bdCons (setV 1) (bdCons (setV 2) bdNil))) (mBl (mBin gtD (mBin modD (mCall 2 F__law_mixed (mCons (mVar 0) (mCons (mVar 1) mNil))) (mC (.int 3))) (mC (.int 0)))) (mVar 2) [.v S, .v (.int f), .v W, .un, .un, .un, .un, .un, .un, .un, .un, .un, .un] = some (vs.map D.str) := by
    unfold mCompIf
    show (if (enumD (ws.map D.str)).length < sizeLine then compL _ _ _ (enumD (ws.map D.str)) [.v (.int f), .un, .un] else none) = _
    rw [if_pos (by unfold enumD; simp only [List.length_map, List.length_zipIdx]; exact Nat.lt_of_le_of_lt w2 (by decide)), enum_strs]
    exact v3
  refine ⟨vs.map D.str, e3, ⟨by rw [List.length_map]; omega, .inl fun d hd => by obtain ⟨w, _, rfl⟩ := List.mem_map.mp hd; exact ⟨w, rfl⟩⟩, fun l' l1 l2 => ?_⟩
  obtain ⟨ls, rfl, lsub⟩ := strs_back l' l2
  rw [List.length_map, List.length_map] at l1
  have lsW : Wds ls := fun w hw => w1 w (v1 w (lsub w hw))
  let L : D := .lst (ls.map D.str)
  refine ⟨[.v S, .v (.int f), .v W, .v L, .un, .un, .un, .un, .un, .un, .un, .un, .un], by rfl, ?_⟩
  refine n_nx (r1 := [.v S, .v (.int f), .v W, .v L, .v .non, .un, .un, .un, .un, .un, .un, .un, .un]) (by rfl) ?_
  obtain ⟨t, ht, s2⟩ : ∃ t : D, Tl t ∧ sIf (mBl (mBin gtD (mBin modD (mVar 1) (mC (.int 4))) (mC (.int 0)))) (sSet 4 (mBin addD (mC (.int 6)) (mBin modD (mBin fdivD (mVar 1) (mC (.int 4))) (mC (.int 1000))))) sSkip [.v S, .v (.int f), .v W, .v L, .v .non, .un, .un, .un, .un, .un, .un, .un, .un] = some (.nx [.v S, .v (.int f), .v W, .v L, .v t, .un, .un, .un, .un, .un, .un, .un, .un]) := by
    have c : mBl (mBin gtD (mBin modD (mVar 1) (mC (.int 4))) (mC (.int 0))) [.v S, .v (.int f), .v W, .v L, .v .non, .un, .un, .un, .un, .un, .un, .un, .un] = some (decide (0 < f % 4)) := gt_of (mod_of (i := f) rfl con_of (by decide)) con_of
    by_cases h : 0 < f % 4
    · rw [decide_eq_true h] at c
      refine ⟨.int (6 + f / 4 % 1000), .inr ⟨_, rfl⟩, ?_⟩
      rw [sIf_t c]
      exact sSet_of (d := .int (6 + f / 4 % 1000)) (add_of con_of (mod_of (fdiv_of (i := f) rfl con_of (by decide)) con_of (by decide))) (by rfl)
    · rw [decide_eq_false h] at c
      exact ⟨.non, .inl rfl, by rw [sIf_f c]; rfl⟩
  refine n_nx s2 ?_
  refine n_nx (r1 := [.v S, .v (.int f), .v W, .v L, .v t, .o [], .un, .un, .un, .un, .un, .un, .un]) (by rfl) ?_
  obtain ⟨P, a', b', c', p1, p2, p3⟩ := pair_all (S := S) (W := W) (L := L) (T := t) (f := f) ws.zipIdx [] .un .un .un (fun p hp => ⟨by have := zip_le hp; omega, (w1 p.1 (by have := List.fst_mem_of_mem_zipIdx hp; exact this)).1⟩) (fun p hp => by simp at hp) (by simp; omega) trivial trivial trivial
  have fe : sFor (bdSeq 2 (bdCons (setV 6) (bdCons (setV 7) bdNil))) (mEnum (mVar 2)) bodyK [.v S, .v (.int f), .v W, .v L, .v t, .o [], .un, .un, .un, .un, .un, .un, .un] = some (.nx [.v S, .v (.int f), .v W, .v L, .v t, .o P, a', b', c', .un, .un, .un, .un]) := by
    unfold sFor
    show forL _ _ (enumD (ws.map D.str)) _ = _
    rw [enum_strs]
    exact p3
  unfold bodyK at fe
  refine n_nx fe ?_
  have pl : P.length ≤ 1000 := by simp at p2; omega
  refine ⟨P, rfl, ⟨pl, .inr fun d hd => by obtain ⟨i, s, e, _⟩ := p1 d hd; exact ⟨i, s, e⟩⟩, fun P' g1 g2 => ?_⟩
  have p1' : Prs P' := fun p hp => p1 p (g2 p hp)
  refine ⟨[.v S, .v (.int f), .v W, .v L, .v t, .v (.lst P'), a', b', c', .un, .un, .un, .un], by rfl, ?_⟩
  let Rw : D := .tup [.str [114, 111, 119], .tup (ls.map fld), t]
  let bs : List (List Nat) := ws ++ [[97], [122, 122, 122, 122, 122, 122, 122, 122]]
  have hbs : ∀ b ∈ bs, lw b := fun b hb => by
    rcases List.mem_append.mp hb with z | z
    · exact (w1 b z).1
    · simp at z
      rcases z with rfl | rfl <;> (intro c hc; simp at hc; omega)
  obtain ⟨x', ak⟩ := ask_loop (a0 := .v S) (a1 := .v (.int f)) (a2 := .v W) (a6 := a') (a7 := b') (a8 := c') (a9 := .v (.lst (ls.map fld))) (ls := ls) (t := t) (P := P') (by omega) ht p1' bs .un hbs trivial
  refine ⟨.rt (.bl true) [.v S, .v (.int f), .v W, .v L, .v t, .v (.lst P'), a', b', c', .v (.lst (ls.map fld)), .v Rw, .v (.lst P'), x'], ?_, ⟨_, rfl⟩⟩
  have e9 : mOfF (mComp [] 1 (mIt (mVar 3)) (setV 0) (mTup (mCons (mVar 0) (mCons (mBin ixD (mOfF (mLstF (mCons (mTup (mCons (mC (.str [110, 117, 109])) mNil)) (mCons (mTup (mCons (mC (.str [118, 97, 114])) (mCons (mC (.int 5)) mNil))) (mCons (mTup (mCons (mC (.str [102, 117, 110])) (mCons (mTup (mCons (mC (.str [110, 117, 109])) mNil)) (mCons (mTup (mCons (mC (.str [110, 117, 109])) mNil)) mNil)))) mNil))))) (mBin modD (mUn lenD (mVar 0)) (mC (.int 3)))) mNil)))) [.v S, .v (.int f), .v W, .v L, .v t, .v (.lst P'), a', b', c', .un, .un, .un, .un] = some (.lst (ls.map fld)) := by
    have cc : mComp [] 1 (mIt (mVar 3)) (setV 0) (mTup (mCons (mVar 0) (mCons (mBin ixD (mOfF (mLstF (mCons (mTup (mCons (mC (.str [110, 117, 109])) mNil)) (mCons (mTup (mCons (mC (.str [118, 97, 114])) (mCons (mC (.int 5)) mNil))) (mCons (mTup (mCons (mC (.str [102, 117, 110])) (mCons (mTup (mCons (mC (.str [110, 117, 109])) mNil)) (mCons (mTup (mCons (mC (.str [110, 117, 109])) mNil)) mNil)))) mNil))))) (mBin modD (mUn lenD (mVar 0)) (mC (.int 3)))) mNil))) [.v S, .v (.int f), .v W, .v L, .v t, .v (.lst P'), a', b', c', .un, .un, .un, .un] = some (ls.map fld) := by
      unfold mComp mCompIf
      show (if (ls.map D.str).length < sizeLine then compL _ _ _ (ls.map D.str) [.un] else none) = _
      rw [if_pos (by rw [List.length_map]; exact Nat.lt_of_le_of_lt (by omega : ls.length ≤ 40) (by decide))]
      exact comp_fld ls .un (fun w hw => (lsW w hw).2) trivial
    show Option.map D.lst (mComp [] 1 (mIt (mVar 3)) (setV 0) (mTup (mCons (mVar 0) (mCons (mBin ixD (mOfF (mLstF (mCons (mTup (mCons (mC (.str [110, 117, 109])) mNil)) (mCons (mTup (mCons (mC (.str [118, 97, 114])) (mCons (mC (.int 5)) mNil))) (mCons (mTup (mCons (mC (.str [102, 117, 110])) (mCons (mTup (mCons (mC (.str [110, 117, 109])) mNil)) (mCons (mTup (mCons (mC (.str [110, 117, 109])) mNil)) mNil)))) mNil))))) (mBin modD (mUn lenD (mVar 0)) (mC (.int 3)))) mNil))) [.v S, .v (.int f), .v W, .v L, .v t, .v (.lst P'), a', b', c', .un, .un, .un, .un]) = _
    rw [cc]; rfl
  refine seq_set (.lst (ls.map fld)) e9 (r2 := [.v S, .v (.int f), .v W, .v L, .v t, .v (.lst P'), a', b', c', .v (.lst (ls.map fld)), .un, .un, .un]) (by rfl) ?_
  have rw_of : ∀ x y z : Sl, mTup (mCons (mC (.str [114, 111, 119])) (mCons (mTupOf (mAsL (mVar 9))) (mCons (mVar 4) mNil))) [.v S, .v (.int f), .v W, .v L, .v t, .v (.lst P'), a', b', c', .v (.lst (ls.map fld)), x, y, z] = some Rw := fun x y z => tup_of (cons_of con_of (cons_of (x := .tup (ls.map fld)) rfl (cons_of rfl nil_of))) (by show 3 ≤ 100; decide)
  refine seq_set Rw (rw_of _ _ _) (r2 := [.v S, .v (.int f), .v W, .v L, .v t, .v (.lst P'), a', b', c', .v (.lst (ls.map fld)), .v Rw, .un, .un]) (by rfl) ?_
  refine seq_set (.lst P') rfl (r2 := [.v S, .v (.int f), .v W, .v L, .v t, .v (.lst P'), a', b', c', .v (.lst (ls.map fld)), .v Rw, .v (.lst P'), .un]) (by rfl) ?_
  have it : mIt (mBin addD (mVar 2) (mOfF (mLstF (mCons (mC (.str [97])) (mCons (mC (.str [122, 122, 122, 122, 122, 122, 122, 122])) mNil))))) [.v S, .v (.int f), .v W, .v L, .v t, .v (.lst P'), a', b', c', .v (.lst (ls.map fld)), .v Rw, .v (.lst P'), .un] = some (bs.map D.str) := by
    unfold mIt
    rw [ladd (l := ws.map D.str) (m := [.str [97], .str [122, 122, 122, 122, 122, 122, 122, 122]]) rfl rfl (by simp; omega)]
    show some ((ws.map D.str) ++ [.str [97], .str [122, 122, 122, 122, 122, 122, 122, 122]]) = some ((ws ++ [[97], [122, 122, 122, 122, 122, 122, 122, 122]]).map D.str)
    rw [List.map_append]; rfl
  have fq : sFor (setV 12) (mIt (mBin addD (mVar 2) (mOfF (mLstF (mCons (mC (.str [97])) (mCons (mC (.str [122, 122, 122, 122, 122, 122, 122, 122])) mNil)))))) bodyQ [.v S, .v (.int f), .v W, .v L, .v t, .v (.lst P'), a', b', c', .v (.lst (ls.map fld)), .v Rw, .v (.lst P'), .un] = some (.nx [.v S, .v (.int f), .v W, .v L, .v t, .v (.lst P'), a', b', c', .v (.lst (ls.map fld)), .v Rw, .v (.lst P'), x']) := by
    unfold sFor
    rw [it]
    exact ak
  unfold bodyQ at fq
  rw [seq_of fq]
  refine ret_of ?_
  have l1 : mBin eqT (mVar 11) (mVar 5) [.v S, .v (.int f), .v W, .v L, .v t, .v (.lst P'), a', b', c', .v (.lst (ls.map fld)), .v Rw, .v (.lst P'), x'] = some (.bl true) := bin_of (x := .lst P') (y := .lst P') rfl rfl (eqT_refl (lay_list p1'))
  have l2 : mBin eqT (mVar 10) (mTup (mCons (mC (.str [114, 111, 119])) (mCons (mTupOf (mAsL (mVar 9))) (mCons (mVar 4) mNil)))) [.v S, .v (.int f), .v W, .v L, .v t, .v (.lst P'), a', b', c', .v (.lst (ls.map fld)), .v Rw, .v (.lst P'), x'] = some (.bl true) := bin_of (x := Rw) (y := Rw) rfl (rw_of _ _ _) (eqT_refl (lay_row lsW ht))
  unfold mAnd
  rw [l1]
  exact l2
def DfOk (K : Fg) (n : Str) (st : Stmt) : Prop := ∃ (f : Addr) (od an : Option Addr) (sl : Array (Option Value)) (oc kV dc pm cd ct : Value), PySem.W.nsIn K mainGlobals n = some (some (.ref f)) ∧ K.lookup f = some ⟨oc, od, .func (PySem.W.fnOf n n (defArgs st) (defBody st) (defScope st) .none kV dc pm an cd ct), sl⟩ ∧ PySem.W.codeIn K cd n = true ∧ PySem.W.keepIn K (.ref f) = true
theorem dfo {K : Fg} {n : Str} {st : Stmt} {f : Addr} {od an : Option Addr} {sl : Array (Option Value)} {oc kV dc pm cd ct : Value} (a : PySem.W.nsIn K mainGlobals n = some (some (.ref f))) (l : K.lookup f = some ⟨oc, od, .func (PySem.W.fnOf n n (defArgs st) (defBody st) (defScope st) .none kV dc pm an cd ct), sl⟩) (c : PySem.W.codeIn K cd n = true) (k : PySem.W.keepIn K (.ref f) = true) : DfOk K n st := ⟨f, od, an, sl, oc, kV, dc, pm, cd, ct, a, l, c, k⟩
theorem law_sp {K : Fg} (hm : ∀ ns : List Int, ns.length ≤ 63 → g_law ([.v (.lst (ns.map .int))] ++ List.replicate (13 - 1) .un) (fun fl => ∃ r, fl = .rt (.bl true) r)) (H : Hp) (a : Addr) (ns : List Int) (hl : ns.length ≤ 63) (hS : SqL K H a (ns.map V.int)) : spT K 1 13 g_law [.ref a] H (fun v _ => v = .bl true) (fun _ _ _ => False) := by
  have il : ∀ l : List Int, IsL K (fun _ => False) H (l.map D.int) (l.map V.int) := fun l => by
    induction l with
    | nil => exact IsL.nil
    | cons x l ih => exact .cons (by rw [Is.int_iff]) ih
  exact ⟨fun _ => False, [.v (.lst (ns.map .int))], rfl, R.args (ds := [.lst (ns.map .int)]) noF (.cons (by rw [Is.lst_iff]; exact ⟨a, _, rfl, hS.imp (fun z => ⟨id, z⟩) id, il ns⟩) .nil), hm ns hl, fun _ => rfl⟩
theorem all_mk {l : PySem.W.OpenLaw} {w : World} {K : Fg} {h : Heap} {mg : Str → Option Value} {fa : Addr} (X : K.In h) (G : h.Ns mainGlobals mg) (hfa : mg "law" = some (.ref fa))
    (D0 : DfOk K "parameter_of" (top 2))
    (D1 : DfOk K "offset" (top 1))
    (D2 : DfOk K "_law_whole" (top 4))
    (D3 : DfOk K "_law_mixed" (top 5))
    (D4 : DfOk K "_law_word" (top 6))
    (D5 : DfOk K "_law_words" (top 7))
    (D6 : DfOk K "_law_good" (top 8))
    (D7 : DfOk K "_law_due" (top 9))
    (D8 : DfOk K "law" (top 10))
    (z_bool : PySem.W.nsIn K mainGlobals "bool" = some none)
    (z_enumerate : PySem.W.nsIn K mainGlobals "enumerate" = some none)
    (z_int : PySem.W.nsIn K mainGlobals "int" = some none)
    (z_isinstance : PySem.W.nsIn K mainGlobals "isinstance" = some none)
    (z_len : PySem.W.nsIn K mainGlobals "len" = some none)
    (z_list : PySem.W.nsIn K mainGlobals "list" = some none)
    (z_range : PySem.W.nsIn K mainGlobals "range" = some none)
    (z_sorted : PySem.W.nsIn K mainGlobals "sorted" = some none)
    (z_tuple : PySem.W.nsIn K mainGlobals "tuple" = some none) :
    ∃ fd : FuncData, (∀ (s : Shared) (v : Value), BindsTo s fd ⟨[v], []⟩ [("_law_script", v)]) ∧ ∀ base : Heap, K.In base → base.Ns mainGlobals mg → FnOk l.prog w K mg base CX0 3 fa fd ["_law_script"] (spT K 1 13 g_law) := by
  obtain ⟨f0, _, _, _, _, _, _, _, _, _, a0, l0, c0, k0⟩ := D0
  obtain ⟨f1, _, _, _, _, _, _, _, _, _, a1, l1, c1, k1⟩ := D1
  obtain ⟨f2, _, _, _, _, _, _, _, _, _, a2, l2, c2, k2⟩ := D2
  obtain ⟨f3, _, _, _, _, _, _, _, _, _, a3, l3, c3, k3⟩ := D3
  obtain ⟨f4, _, _, _, _, _, _, _, _, _, a4, l4, c4, k4⟩ := D4
  obtain ⟨f5, _, _, _, _, _, _, _, _, _, a5, l5, c5, k5⟩ := D5
  obtain ⟨f6, _, _, _, _, _, _, _, _, _, a6, l6, c6, k6⟩ := D6
  obtain ⟨f7, _, _, _, _, _, _, _, _, _, a7, l7, c7, k7⟩ := D7
  obtain ⟨f8, _, _, _, _, _, _, _, _, _, a8, l8, c8, k8⟩ := D8
  have e := hfa.symm.trans (PySem.W.mg_of X G a8)
  cases e
  have F0 := fun_mk (st := top 2) l0 c0 k0
  have b0 := F0.binds (ps := ["tail", "label", "params"]) fun _ _ _ _ _ _ us hl => match us, hl with | [_, _, _], _ => rfl
  have F1 := fun_mk (st := top 1) l1 c1 k1
  have b1 := F1.binds (ps := ["row", "label", "params"]) fun _ _ _ _ _ _ us hl => match us, hl with | [_, _, _], _ => rfl
  have F2 := fun_mk (st := top 4) l2 c2 k2
  have b2 := F2.binds (ps := ["_law_found"]) fun _ _ _ _ _ _ us hl => match us, hl with | [_], _ => rfl
  have F3 := fun_mk (st := top 5) l3 c3 k3
  have b3 := F3.binds (ps := ["_law_cell", "_law_k"]) fun _ _ _ _ _ _ us hl => match us, hl with | [_, _], _ => rfl
  have F4 := fun_mk (st := top 6) l4 c4 k4
  have b4 := F4.binds (ps := ["_law_number"]) fun _ _ _ _ _ _ us hl => match us, hl with | [_], _ => rfl
  have F5 := fun_mk (st := top 7) l5 c5 k5
  have b5 := F5.binds (ps := ["_law_script"]) fun _ _ _ _ _ _ us hl => match us, hl with | [_], _ => rfl
  have F6 := fun_mk (st := top 8) l6 c6 k6
  have b6 := F6.binds (ps := ["_law_found", "_law_due_here"]) fun _ _ _ _ _ _ us hl => match us, hl with | [_, _], _ => rfl
  have F7 := fun_mk (st := top 9) l7 c7 k7
  have b7 := F7.binds (ps := ["_law_labels", "_law_tail", "_law_label", "_law_params"]) fun _ _ _ _ _ _ us hl => match us, hl with | [_, _, _, _], _ => rfl
  have F8 := fun_mk (st := top 10) l8 c8 k8
  have b8 := F8.binds (ps := ["_law_script"]) fun _ _ _ _ _ _ us hl => match us, hl with | [_], _ => rfl
  exact ⟨_, fun s v => .of_eq rfl, fun base _ _ => ok_law ⟨⟨_, _, F0, PySem.W.mg_of X G a0, b0⟩, ⟨_, _, F1, PySem.W.mg_of X G a1, b1⟩, ⟨_, _, F2, PySem.W.mg_of X G a2, b2⟩, ⟨_, _, F3, PySem.W.mg_of X G a3, b3⟩, ⟨_, _, F4, PySem.W.mg_of X G a4, b4⟩, ⟨_, _, F5, PySem.W.mg_of X G a5, b5⟩, ⟨_, _, F6, PySem.W.mg_of X G a6, b6⟩, ⟨_, _, F7, PySem.W.mg_of X G a7, b7⟩, ⟨_, _, F8, PySem.W.mg_of X G a8, b8⟩, PySem.W.mg_none_of X G z_bool, PySem.W.mg_none_of X G z_enumerate, PySem.W.mg_none_of X G z_int, PySem.W.mg_none_of X G z_isinstance, PySem.W.mg_none_of X G z_len, PySem.W.mg_none_of X G z_list, PySem.W.mg_none_of X G z_range, PySem.W.mg_none_of X G z_sorted, PySem.W.mg_none_of X G z_tuple⟩⟩
theorem walk {l : PySem.W.OpenLaw} {q : Program} {loose : List Str} {XP : (Str → Option Value) → Heap → Prop} {YP : World → Heap → Prop} {d : DefRec} {K : Params → Fg} (hm : ∀ ns : List Int, ns.length ≤ 63 → g_law ([.v (.lst (ns.map .int))] ++ List.replicate (13 - 1) .un) (fun fl => ∃ r, fl = .rt (.bl true) r)) (hn : l.most = some 63) (hdf : d.params.defaults = [])
    (hY : ∀ (w : World) (h : Heap), YP w h → (K w.params).In h)
    (F : ∀ (w : World) (mg : Str → Option Value) (fa : Addr) (h : Heap), (K w.params).In h → h.Ns mainGlobals mg → mg d.name = some (.ref fa) →
      ∃ fd : FuncData, (∀ (s : Shared) (u : Value), BindsTo s fd ⟨[u], []⟩ [("_law_script", u)]) ∧ ∀ base : Heap, (K w.params).In base → base.Ns mainGlobals mg → FnOk l.prog w (K w.params) mg base CX0 3 fa fd ["_law_script"] (spT (K w.params) 1 13 g_law)) :
    PySem.W.WalkO q loose XP YP l.row.toRowW d [] (fun f vs => PySem.call f vs) :=
  L2.walk_ofK (n := 63) (k := 3) (x := "_law_script") (CX := CX0) (sp := fun K => spT K 1 13 g_law) hn (by decide) hdf ⟨rfl, by decide, by decide⟩ hY F (fun K H a ns hl _ hS => law_sp hm H a ns hl hS) fun _ _ _ _ z => z
end K51
open PyProof.Rows PySem PySem.W
set_option maxRecDepth 100000 in
set_option maxHeartbeats 0 in
theorem PySem.Challenge.cw_fieldrows_k51_offset_holds : PySem.Challenge.rw_fieldrows_k51_offset.Holds := by
  w_on; o_law; k_head; (case hw => w_witness2)
  k_fill
  refine K51.walk (l := PySem.Challenge.rw_fieldrows_k51_offset) K51.law_math rfl rfl (fun w h Y => PySem.W.kIn_of Y) ?F
  case F =>
    intro w mg fa h KX G hmg
    refine' K51.all_mk KX G hmg (K51.dfo ?a0 ?l0 ?c0 ?k0) (K51.dfo ?a1 ?l1 ?c1 ?k1) (K51.dfo ?a2 ?l2 ?c2 ?k2) (K51.dfo ?a3 ?l3 ?c3 ?k3) (K51.dfo ?a4 ?l4 ?c4 ?k4) (K51.dfo ?a5 ?l5 ?c5 ?k5) (K51.dfo ?a6 ?l6 ?c6 ?k6) (K51.dfo ?a7 ?l7 ?c7 ?k7) (K51.dfo ?a8 ?l8 ?c8 ?k8) ?z_bool ?z_enumerate ?z_int ?z_isinstance ?z_len ?z_list ?z_range ?z_sorted ?z_tuple
    (case a0 => k_is)
    (case l0 => k_is)
    (case c0 => k_is)
    (case k0 => k_is)
    (case a1 => k_is)
    (case l1 => k_is)
    (case c1 => k_is)
    (case k1 => k_is)
    (case a2 => k_is)
    (case l2 => k_is)
    (case c2 => k_is)
    (case k2 => k_is)
    (case a3 => k_is)
    (case l3 => k_is)
    (case c3 => k_is)
    (case k3 => k_is)
    (case a4 => k_is)
    (case l4 => k_is)
    (case c4 => k_is)
    (case k4 => k_is)
    (case a5 => k_is)
    (case l5 => k_is)
    (case c5 => k_is)
    (case k5 => k_is)
    (case a6 => k_is)
    (case l6 => k_is)
    (case c6 => k_is)
    (case k6 => k_is)
    (case a7 => k_is)
    (case l7 => k_is)
    (case c7 => k_is)
    (case k7 => k_is)
    (case a8 => k_is)
    (case l8 => k_is)
    (case c8 => k_is)
    (case k8 => k_is)
    (case z_bool => k_is)
    (case z_enumerate => k_is)
    (case z_int => k_is)
    (case z_isinstance => k_is)
    (case z_len => k_is)
    (case z_list => k_is)
    (case z_range => k_is)
    (case z_sorted => k_is)
    (case z_tuple => k_is)
